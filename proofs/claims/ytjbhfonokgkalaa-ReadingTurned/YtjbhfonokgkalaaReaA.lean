/- The walks of what reading takes of the library (Index, Contains, IndexFunc, ContainsFunc), and of partsThatCount. -/
import Derived.Test.YtjbhfonokgkalaaBasR
import Derived.Test.YtjbhfonokgkalaaReaM
import Derived.Deep.DeepAppendWide
namespace Go.Proofs.Ytjbhfonokgkalaa
open Go.RowKit
set_option linter.unusedVariables false

theorem firstI_at {α : Type} (q : α → Bool) : (l : List α) → (k : Nat) → (hk : k < l.length) → (∀ j (hj : j < k), q (l[j]'(by omega)) = false) → q l[k] = true → firstI q l = k
  | [], k, hk, _, _ => by simp at hk
  | x :: r, 0, hk, _, h => by simp at h; simp [firstI, h]
  | x :: r, k + 1, hk, hb, h => by
    have h0 : q x = false := hb 0 (by omega)
    have ih := firstI_at q r k (by simpa using hk) (fun j hj => hb (j + 1) (by omega)) (by simpa using h)
    simp only [firstI, h0, ih]
    rw [if_neg (by simp), if_neg (by omega)]
    omega
theorem firstI_no {α : Type} (q : α → Bool) : (l : List α) → (∀ x ∈ l, q x = false) → firstI q l = -1
  | [], _ => rfl
  | x :: r, h => by
    have ih := firstI_no q r (fun y hy => h y (by simp [hy]))
    simp [firstI, h x (by simp), ih]
theorem firstI_cases {α : Type} (q : α → Bool) (l : List α) : (firstI q l = -1 ∧ l.any q = false) ∨ ∃ k : Nat, ∃ hk : k < l.length, firstI q l = k ∧ q l[k] = true ∧ l.any q = true := by
  induction l with
  | nil => exact .inl ⟨rfl, rfl⟩
  | cons x r ih =>
    cases hx : q x with
    | true => exact .inr ⟨0, by simp, by simp [firstI, hx], by simpa using hx, by simp [hx]⟩
    | false =>
      rcases ih with ⟨h1, h2⟩ | ⟨k, hk, h1, h2, h3⟩
      · exact .inl ⟨by simp [firstI, hx, h1], by simp [hx, h2]⟩
      · refine .inr ⟨k + 1, by simpa using hk, ?_, by simpa using h2, by simp [hx, h3]⟩
        simp only [firstI, hx, h1]
        rw [if_neg (by simp), if_neg (by omega)]
        omega
/-- Whether a number is among others. -/
theorem mem_any (c : Int) (xs : List Int) : xs.any (fun x => c == x) = decide (c ∈ xs) := by
  rw [Bool.eq_iff_iff]; simp

set_option maxHeartbeats 1000000 in
theorem indexI_any (xs : List Int) (c : Int) (a : Option Addr) (len cap : Nat) (w : World) (hrd : Rd .i64 w a len xs) (hm : len ≤ 9223372036854775806) :
    Calls Try.prog 75 #[.slice a len cap, .int .i64 c] w fun e w' => e = .returned (.int .i64 (firstI (fun x => c == x) xs)) ∧ w' = w := by
  have HD : Hid (Rd .i64 w a len xs) := hrd
  have HL : Hid (xs.length = len) := hrd.1
  obtain ⟨R, hR⟩ : ∃ R, R = firstI (fun x => c == x) xs := ⟨_, rfl⟩
  rw [← hR]
  have HR : Hid (R = firstI (fun x => c == x) xs) := hR
  clear hrd hR
  go_enter Try.func75, Try.ntmps75
  go_wp2
  go_loop [8] (fun x8 => ∃ k : Nat, k ≤ len ∧ x8 = .int .i64 k ∧ ∀ j (hj : j < xs.length), j < k → (c == xs[j]) = false) (fun x8 => len - (intOf x8).toNat)
  case atStart => exact ⟨0, by omega, rfl, fun j _ hj => absurd hj (by omega)⟩
  case round =>
    obtain ⟨k, hk, hx8, hat⟩ := hrel
    subst hx8
    have HA : Hid (∀ j (hj : j < xs.length), j < k → (c == xs[j]) = false) := hat
    clear hat
    by_cases hlt : k < len
    · obtain ⟨b, off, rfl, hcl⟩ := HD.out.2 (by omega)
      have hcc := hcl k hlt
      have hkl : k < xs.length := by rw [HL.out]; exact hlt
      obtain ⟨x, hx⟩ : ∃ x, x = xs.getD k 0 := ⟨_, rfl⟩
      have HX : Hid (x = xs[k]) := by show x = xs[k]; rw [hx]; simp [hkl]
      rw [← hx] at hcc
      clear hcl hx
      by_cases he : (c == x) = true
      · have hR : R = k := HR.out.trans (firstI_at _ xs k hkl (fun j hj => HA.out j (by omega) hj) (by rw [← HX.out]; exact he))
        subst hR
        go_wp2
        go_ret
        exact ⟨rfl, rfl⟩
      · rw [Bool.not_eq_true] at he
        have HE : Hid ((c == x) = false) := he
        go_wp2
        go_round
        case rel =>
          refine ⟨k + 1, by omega, by go_num, fun j hj hj2 => ?_⟩
          rcases Nat.lt_or_ge j k with h | h
          · exact HA.out j hj h
          · obtain rfl : j = k := by omega
            rw [← HX.out]; exact HE.out
        case measure => simp [intOf]; omega
    · have hR : R = -1 := HR.out.trans (firstI_no _ xs (fun x hx => by
        obtain ⟨j, hj, rfl⟩ := List.mem_iff_getElem.1 hx
        exact HA.out j hj (by rw [HL.out] at hj; omega)))
      subst hR
      go_wp2
      go_ret
      exact ⟨rfl, rfl⟩
theorem containsI_any (xs : List Int) (c : Int) (a : Option Addr) (len cap : Nat) (w : World) (hrd : Rd .i64 w a len xs) (hm : len ≤ 9223372036854775806) :
    Calls Try.prog 55 #[.slice a len cap, .int .i64 c] w fun e w' => e = .returned (.bool (decide (c ∈ xs))) ∧ w' = w := by
  have HC : Hid (Calls Try.prog 75 #[.slice a len cap, .int .i64 c] w fun e w' => e = .returned (.int .i64 (firstI (fun x => c == x) xs)) ∧ w' = w) := indexI_any xs c a len cap w hrd hm
  rw [← mem_any]
  obtain ⟨B, hB⟩ : ∃ B, B = xs.any (fun x => c == x) := ⟨_, rfl⟩
  rw [← hB]
  rcases firstI_cases (fun x => c == x) xs with ⟨e, h⟩ | ⟨i, hi, e, h3, h4⟩
  · rw [h] at hB
    subst hB
    rw [e] at HC
    clear e h hrd
    go_enter Try.func55, Try.ntmps55
    go_wp2_with (first | (go_at_call 75; refine HC.out.mono ?_; rintro e w' ⟨rfl, hw'⟩; obtain rfl : w = w' := hw'.symm))
    go_ret
    exact ⟨rfl, rfl⟩
  · rw [h4] at hB
    subst hB
    rw [e] at HC
    have h0 : (0 : Int) ≤ (i : Int) := by omega
    clear e h3 h4 hrd hi
    go_enter Try.func55, Try.ntmps55
    go_wp2_with (first | (go_at_call 75; refine HC.out.mono ?_; rintro e w' ⟨rfl, hw'⟩; obtain rfl : w = w' := hw'.symm))
    go_ret
    exact ⟨rfl, rfl⟩

/-- The two closures of fitsEmpty. -/
theorem notEmpty_any (op : Int) (ca pa : Option Addr) (n cc pn pc : Nat) (e en : Bool) (w : World) :
    Calls Try.prog 89 #[.agg #[.int .i64 op, .slice ca n cc, .slice pa pn pc, .bool e, .bool en]] w fun x w' => x = .returned (.bool (!e)) ∧ Below w.heap.size w w' := by
  have HB : Hid (Below w.heap.size w (w.alloc (.cells #[.int .i64 op, .slice ca n cc, .slice pa pn pc, .bool e, .bool en] 82))) := (Below.refl _ w).alloc (Nat.le_refl _) _
  go_enter Try.func89, Try.ntmps89
  go_wp2
  go_ret
  exact ⟨rfl, HB.out⟩
theorem isEmpty_any (op : Int) (ca pa : Option Addr) (n cc pn pc : Nat) (e en : Bool) (w : World) :
    Calls Try.prog 90 #[.agg #[.int .i64 op, .slice ca n cc, .slice pa pn pc, .bool e, .bool en]] w fun x w' => x = .returned (.bool e) ∧ Below w.heap.size w w' := by
  have HB : Hid (Below w.heap.size w (w.alloc (.cells #[.int .i64 op, .slice ca n cc, .slice pa pn pc, .bool e, .bool en] 82))) := (Below.refl _ w).alloc (Nat.le_refl _) _
  go_enter Try.func90, Try.ntmps90
  go_wp2
  go_ret
  exact ⟨rfl, HB.out⟩
/-- A row of marked expressions of which is known which are empty. -/
def RdK (w : World) (a : Option Addr) (len : Nat) (es : List Bool) : Prop :=
  es.length = len ∧ ∀ i (hi : i < es.length), ∃ b off op ca n cc pa pn pc en, a = some ⟨b, off, none⟩ ∧ w.cell? ⟨b, off + i * 5, none⟩ = some (.int .i64 op) ∧ w.cell? ⟨b, off + i * 5 + 1, none⟩ = some (.slice ca n cc) ∧ w.cell? ⟨b, off + i * 5 + 2, none⟩ = some (.slice pa pn pc) ∧
    w.cell? ⟨b, off + i * 5 + 3, none⟩ = some (.bool es[i]) ∧ w.cell? ⟨b, off + i * 5 + 4, none⟩ = some (.bool en)
theorem RdK.later {w w' : World} {a : Option Addr} {len : Nat} {es : List Bool} (h : RdK w a len es) (hb : Below w.heap.size w w') : RdK w' a len es := by
  refine ⟨h.1, fun i hi => ?_⟩
  obtain ⟨b, off, op, ca, n, cc, pa, pn, pc, en, e, h0, h1, h2, h3, h4⟩ := h.2 i hi
  have hup : ∀ (p : Addr) (v : Value), w.cell? p = some v → w'.cell? p = some v := fun p v hv => (hb.cell (World.block_lt_of_cell? w _ hv)).trans hv
  exact ⟨b, off, op, ca, n, cc, pa, pn, pc, en, e, hup _ _ h0, hup _ _ h1, hup _ _ h2, hup _ _ h3, hup _ _ h4⟩

def notB (b : Bool) : Bool := !b
def idB (b : Bool) : Bool := b
set_option maxHeartbeats 2000000 in
theorem indexK1_any
    (es : List Bool) (a : Option Addr) (len cap : Nat) (w : World) (hrd : RdK w a len es) (hm : len ≤ 9223372036854775806) :
    Calls Try.prog 91 #[.slice a len cap, .func (.func 89) #[] #[]] w fun e w' => e = .returned (.int .i64 (firstI notB es)) ∧ Below w.heap.size w w' := by
  have HF : Hid (∀ (op : Int) (ca pa : Option Addr) (n cc pn pc : Nat) (e en : Bool) (w : World),
      Calls Try.prog 89 #[.agg #[.int .i64 op, .slice ca n cc, .slice pa pn pc, .bool e, .bool en]] w fun x w' => x = .returned (.bool (notB e)) ∧ Below w.heap.size w w') := notEmpty_any
  have HD : Hid (RdK w a len es) := hrd
  have HL : Hid (es.length = len) := hrd.1
  obtain ⟨R, hR⟩ : ∃ R, R = firstI notB es := ⟨_, rfl⟩
  rw [← hR]
  have HR : Hid (R = firstI notB es) := hR
  clear hrd hR
  go_enter Try.func91, Try.ntmps91
  go_wp2
  go_loopw [8] (fun x8 wr => ∃ k : Nat, k ≤ len ∧ x8 = .int .i64 k ∧ (∀ j (hj : j < es.length), j < k → notB es[j] = false) ∧ Below w.heap.size w wr) (fun x8 _ => len - (intOf x8).toNat)
  case atStart => exact ⟨0, by omega, rfl, fun j _ hj => absurd hj (by omega), Below.refl _ _⟩
  case round =>
    obtain ⟨k, hk, hx8, hat, hbl⟩ := hrel
    subst hx8
    have HA : Hid (∀ j (hj : j < es.length), j < k → notB es[j] = false) := hat
    have HBL : Hid (Below w.heap.size w wr) := hbl
    clear hat hbl
    by_cases hlt : k < len
    · have hkl : k < es.length := by rw [HL.out]; exact hlt
      obtain ⟨b, off, op, ca, n, cc, pa, pn, pc, en, rfl, c0, c1, c2, c3, c4⟩ := (HD.out.later HBL.out).2 k hkl
      obtain ⟨e, he⟩ : ∃ e, e = es[k] := ⟨_, rfl⟩
      rw [← he] at c3
      have HE : Hid (e = es[k]) := he
      obtain ⟨B, hB⟩ : ∃ B, B = notB e := ⟨_, rfl⟩
      have HBB : Hid (B = notB es[k]) := by show B = notB es[k]; rw [hB, he]
      have HC : Hid (Calls Try.prog 89 #[.agg #[.int .i64 op, .slice ca n cc, .slice pa pn pc, .bool e, .bool en]] wr fun x w' => x = .returned (.bool B) ∧ Below wr.heap.size wr w') := by rw [hB]; exact HF.out op ca pa n cc pn pc e en wr
      clear he hB
      go_wp2_with fail
      refine HC.out.mono ?_
      rintro x w2 ⟨rfl, hb2⟩
      have HB2 : Hid (Below w.heap.size w w2) := HBL.out.trans (hb2.mono HBL.out.size)
      clear hb2 c0 c1 c2 c3 c4
      cases B with
      | true =>
        have hR : R = k := HR.out.trans (firstI_at _ es k hkl (fun j hj => HA.out j (by omega) hj) HBB.out.symm)
        subst hR
        go_wp2
        go_ret
        exact ⟨rfl, HB2.out⟩
      | false =>
        go_wp2
        go_roundw
        case rel =>
          refine ⟨k + 1, by omega, by go_num, fun j hj hj2 => ?_, HB2.out⟩
          rcases Nat.lt_or_ge j k with h | h
          · exact HA.out j hj h
          · obtain rfl : j = k := by omega
            exact HBB.out.symm
        case measure => simp [intOf]; omega
    · have hR : R = -1 := HR.out.trans (firstI_no _ es (fun x hx => by
        obtain ⟨j, hj, rfl⟩ := List.mem_iff_getElem.1 hx
        exact HA.out j hj (by rw [HL.out] at hj; omega)))
      subst hR
      go_wp2
      go_ret
      exact ⟨rfl, HBL.out⟩

theorem containsK1_any
    (es : List Bool) (a : Option Addr) (len cap : Nat) (w : World) (hrd : RdK w a len es) (hm : len ≤ 9223372036854775806) :
    Calls Try.prog 88 #[.slice a len cap, .func (.func 89) #[] #[]] w fun e w' => e = .returned (.bool (es.any notB)) ∧ Below w.heap.size w w' := by
  have HC : Hid (Calls Try.prog 91 #[.slice a len cap, .func (.func 89) #[] #[]] w fun e w' => e = .returned (.int .i64 (firstI notB es)) ∧ Below w.heap.size w w') := indexK1_any es a len cap w hrd hm
  obtain ⟨B, hB⟩ : ∃ B, B = es.any notB := ⟨_, rfl⟩
  rw [← hB]
  rcases firstI_cases notB es with ⟨e, h⟩ | ⟨i, hi, e, h3, h4⟩
  · rw [h] at hB
    subst hB
    rw [e] at HC
    clear e h hrd
    go_enter Try.func88, Try.ntmps88
    go_wp2_with fail
    refine HC.out.mono ?_
    rintro e w2 ⟨rfl, hb2⟩
    have HB2 : Hid (Below w.heap.size w w2) := hb2
    clear hb2
    go_wp2
    go_ret
    exact ⟨rfl, HB2.out⟩
  · rw [h4] at hB
    subst hB
    rw [e] at HC
    have h0 : (0 : Int) ≤ (i : Int) := by omega
    clear e h3 h4 hrd hi
    go_enter Try.func88, Try.ntmps88
    go_wp2_with fail
    refine HC.out.mono ?_
    rintro e w2 ⟨rfl, hb2⟩
    have HB2 : Hid (Below w.heap.size w w2) := hb2
    clear hb2
    go_wp2
    go_ret
    exact ⟨rfl, HB2.out⟩
set_option maxHeartbeats 2000000 in
theorem indexK2_any
    (es : List Bool) (a : Option Addr) (len cap : Nat) (w : World) (hrd : RdK w a len es) (hm : len ≤ 9223372036854775806) :
    Calls Try.prog 91 #[.slice a len cap, .func (.func 90) #[] #[]] w fun e w' => e = .returned (.int .i64 (firstI idB es)) ∧ Below w.heap.size w w' := by
  have HF : Hid (∀ (op : Int) (ca pa : Option Addr) (n cc pn pc : Nat) (e en : Bool) (w : World),
      Calls Try.prog 90 #[.agg #[.int .i64 op, .slice ca n cc, .slice pa pn pc, .bool e, .bool en]] w fun x w' => x = .returned (.bool (idB e)) ∧ Below w.heap.size w w') := isEmpty_any
  have HD : Hid (RdK w a len es) := hrd
  have HL : Hid (es.length = len) := hrd.1
  obtain ⟨R, hR⟩ : ∃ R, R = firstI idB es := ⟨_, rfl⟩
  rw [← hR]
  have HR : Hid (R = firstI idB es) := hR
  clear hrd hR
  go_enter Try.func91, Try.ntmps91
  go_wp2
  go_loopw [8] (fun x8 wr => ∃ k : Nat, k ≤ len ∧ x8 = .int .i64 k ∧ (∀ j (hj : j < es.length), j < k → idB es[j] = false) ∧ Below w.heap.size w wr) (fun x8 _ => len - (intOf x8).toNat)
  case atStart => exact ⟨0, by omega, rfl, fun j _ hj => absurd hj (by omega), Below.refl _ _⟩
  case round =>
    obtain ⟨k, hk, hx8, hat, hbl⟩ := hrel
    subst hx8
    have HA : Hid (∀ j (hj : j < es.length), j < k → idB es[j] = false) := hat
    have HBL : Hid (Below w.heap.size w wr) := hbl
    clear hat hbl
    by_cases hlt : k < len
    · have hkl : k < es.length := by rw [HL.out]; exact hlt
      obtain ⟨b, off, op, ca, n, cc, pa, pn, pc, en, rfl, c0, c1, c2, c3, c4⟩ := (HD.out.later HBL.out).2 k hkl
      obtain ⟨e, he⟩ : ∃ e, e = es[k] := ⟨_, rfl⟩
      rw [← he] at c3
      have HE : Hid (e = es[k]) := he
      obtain ⟨B, hB⟩ : ∃ B, B = idB e := ⟨_, rfl⟩
      have HBB : Hid (B = idB es[k]) := by show B = idB es[k]; rw [hB, he]
      have HC : Hid (Calls Try.prog 90 #[.agg #[.int .i64 op, .slice ca n cc, .slice pa pn pc, .bool e, .bool en]] wr fun x w' => x = .returned (.bool B) ∧ Below wr.heap.size wr w') := by rw [hB]; exact HF.out op ca pa n cc pn pc e en wr
      clear he hB
      go_wp2_with fail
      refine HC.out.mono ?_
      rintro x w2 ⟨rfl, hb2⟩
      have HB2 : Hid (Below w.heap.size w w2) := HBL.out.trans (hb2.mono HBL.out.size)
      clear hb2 c0 c1 c2 c3 c4
      cases B with
      | true =>
        have hR : R = k := HR.out.trans (firstI_at _ es k hkl (fun j hj => HA.out j (by omega) hj) HBB.out.symm)
        subst hR
        go_wp2
        go_ret
        exact ⟨rfl, HB2.out⟩
      | false =>
        go_wp2
        go_roundw
        case rel =>
          refine ⟨k + 1, by omega, by go_num, fun j hj hj2 => ?_, HB2.out⟩
          rcases Nat.lt_or_ge j k with h | h
          · exact HA.out j hj h
          · obtain rfl : j = k := by omega
            exact HBB.out.symm
        case measure => simp [intOf]; omega
    · have hR : R = -1 := HR.out.trans (firstI_no _ es (fun x hx => by
        obtain ⟨j, hj, rfl⟩ := List.mem_iff_getElem.1 hx
        exact HA.out j hj (by rw [HL.out] at hj; omega)))
      subst hR
      go_wp2
      go_ret
      exact ⟨rfl, HBL.out⟩

theorem containsK2_any
    (es : List Bool) (a : Option Addr) (len cap : Nat) (w : World) (hrd : RdK w a len es) (hm : len ≤ 9223372036854775806) :
    Calls Try.prog 88 #[.slice a len cap, .func (.func 90) #[] #[]] w fun e w' => e = .returned (.bool (es.any idB)) ∧ Below w.heap.size w w' := by
  have HC : Hid (Calls Try.prog 91 #[.slice a len cap, .func (.func 90) #[] #[]] w fun e w' => e = .returned (.int .i64 (firstI idB es)) ∧ Below w.heap.size w w') := indexK2_any es a len cap w hrd hm
  obtain ⟨B, hB⟩ : ∃ B, B = es.any idB := ⟨_, rfl⟩
  rw [← hB]
  rcases firstI_cases idB es with ⟨e, h⟩ | ⟨i, hi, e, h3, h4⟩
  · rw [h] at hB
    subst hB
    rw [e] at HC
    clear e h hrd
    go_enter Try.func88, Try.ntmps88
    go_wp2_with fail
    refine HC.out.mono ?_
    rintro e w2 ⟨rfl, hb2⟩
    have HB2 : Hid (Below w.heap.size w w2) := hb2
    clear hb2
    go_wp2
    go_ret
    exact ⟨rfl, HB2.out⟩
  · rw [h4] at hB
    subst hB
    rw [e] at HC
    have h0 : (0 : Int) ≤ (i : Int) := by omega
    clear e h3 h4 hrd hi
    go_enter Try.func88, Try.ntmps88
    go_wp2_with fail
    refine HC.out.mono ?_
    rintro e w2 ⟨rfl, hb2⟩
    have HB2 : Hid (Below w.heap.size w w2) := hb2
    clear hb2
    go_wp2
    go_ret
    exact ⟨rfl, HB2.out⟩
/-- The parts that count. -/
theorem parts_any (op : Int) (ca pa : Option Addr) (n cc pn pc : Nat) (w : World) (hpn : pn ≤ 9223372036854775806) :
    Calls Try.prog 85 #[.agg #[.int .i64 op, .slice ca n cc, .slice pa pn pc]] w fun x w' => x = .returned (if cnt op pn = true then .slice pa pn pc else .slice none 0 0) ∧ Below w.heap.size w w' := by
  have HB : Hid (Below w.heap.size w (w.alloc (.cells #[.int .i64 op, .slice ca n cc, .slice pa pn pc] 33))) := (Below.refl _ w).alloc (Nat.le_refl _) _
  by_cases h23 : op = 2 ∨ op = 3
  · have hc : cnt op pn = true := by unfold cnt; simp [h23]
    rw [hc]
    clear hc
    rcases h23 with rfl | rfl
    all_goals
      go_enter Try.func85, Try.ntmps85
      go_wp2
      go_ret
      exact ⟨rfl, HB.out⟩
  · by_cases h45 : op = 4 ∨ op = 5
    · obtain ⟨b, hb⟩ : ∃ b, b = cnt op pn := ⟨_, rfl⟩
      have hb1 : ((pn : Int) == 1) = b := by
        rw [hb]; unfold cnt
        rw [decide_eq_false h23, decide_eq_true h45, Bool.eq_iff_iff]; simp; omega
      have hb2 : (((pn : Int) - 1) == 0) = b := by
        rw [← hb1, Bool.eq_iff_iff]; simp; omega
      have w1 : IntKind.i64.wrap ((pn : Int) - 1) = (pn : Int) - 1 := by rw [IntKind.wrap_i64]; omega
      rw [← hb]
      clear h23 hb
      rcases h45 with rfl | rfl
      all_goals
        cases b
        all_goals
          go_enter Try.func85, Try.ntmps85
          go_wp2
          go_ret
          exact ⟨rfl, HB.out⟩
    · have hc : cnt op pn = false := by unfold cnt; rw [decide_eq_false h23, decide_eq_false h45]; rfl
      rw [hc]
      have e2 : ¬ op = 2 := fun h => h23 (.inl h)
      have e3 : ¬ op = 3 := fun h => h23 (.inr h)
      have e4 : ¬ op = 4 := fun h => h45 (.inl h)
      have e5 : ¬ op = 5 := fun h => h45 (.inr h)
      clear h23 h45 hc
      go_enter Try.func85, Try.ntmps85
      go_wp2
      go_ret
      exact ⟨rfl, HB.out⟩
end Go.Proofs.Ytjbhfonokgkalaa
