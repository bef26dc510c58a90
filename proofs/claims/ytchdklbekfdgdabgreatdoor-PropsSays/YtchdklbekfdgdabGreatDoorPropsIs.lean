/- The walks of errors.Is, and of Says: an error that wraps an Errno, however deep, is that Errno, and no other one. -/
import Derived.Test.YtchdklbekfdgdabGreatDoorPropsKB
import Derived.Lib.IfaceEq
import Derived.Shelf.SlSortCmp.QuietGrown
namespace Go.Proofs.YtchdklbekfdgdabGreatDoor
open Go.RowKit Go.Sort Go.Extern.Stop Go.Stop Go.Extern
set_option linter.unusedVariables false

/-- An error that wraps this number: the number, a *Fault of it, a wrong text's, one wrapped once more. -/
def Ch (w : World) (en : Int) : Value → Nat → Prop
  | E, 0 => E = .iface 24 (.int .i64 en)
  | E, n + 1 => (n = 0 ∧ ∃ (q : Nat) (ln : Int), w.heap[q]? = some (.cells #[.int .i64 ln, .iface 24 (.int .i64 en)] 28) ∧ E = .iface 23 (.pointer (some ⟨q, 0, none⟩))) ∨
      (n = 1 ∧ ∃ (p q : Nat) (ln : Int), w.heap[p]? = some (.cells #[.pointer (some ⟨q, 0, none⟩)] 78) ∧ w.heap[q]? = some (.cells #[.int .i64 ln, .iface 24 (.int .i64 en)] 28) ∧ E = .iface 76 (.pointer (some ⟨p, 0, none⟩))) ∨
      ∃ v, E = .iface 34 (.agg #[v]) ∧ Ch w en v n
theorem Ch.num {w : World} {en : Int} : Ch w en (.iface 24 (.int .i64 en)) 0 := rfl
theorem Ch.fault {w : World} {en : Int} (q : Nat) (ln : Int) (h : w.heap[q]? = some (.cells #[.int .i64 ln, .iface 24 (.int .i64 en)] 28)) : Ch w en (.iface 23 (.pointer (some ⟨q, 0, none⟩))) 1 := .inl ⟨rfl, q, ln, h, rfl⟩
theorem Ch.wrong {w : World} {en : Int} (p q : Nat) (ln : Int) (h : w.heap[p]? = some (.cells #[.pointer (some ⟨q, 0, none⟩)] 78)) (h2 : w.heap[q]? = some (.cells #[.int .i64 ln, .iface 24 (.int .i64 en)] 28)) : Ch w en (.iface 76 (.pointer (some ⟨p, 0, none⟩))) 2 := .inr (.inl ⟨rfl, p, q, ln, h, h2, rfl⟩)
theorem Ch.wrap {w : World} {en : Int} (v : Value) (n : Nat) (h : Ch w en v n) : Ch w en (.iface 34 (.agg #[v])) (n + 1) := .inr (.inr ⟨v, rfl, h⟩)
theorem Ch.split {w : World} {en : Int} {E : Value} : {n : Nat} → Ch w en E n → (n = 0 ∧ E = .iface 24 (.int .i64 en)) ∨ (∃ (q : Nat) (ln : Int), w.heap[q]? = some (.cells #[.int .i64 ln, .iface 24 (.int .i64 en)] 28) ∧ n = 1 ∧ E = .iface 23 (.pointer (some ⟨q, 0, none⟩))) ∨
    (∃ (p q : Nat) (ln : Int), w.heap[p]? = some (.cells #[.pointer (some ⟨q, 0, none⟩)] 78) ∧ w.heap[q]? = some (.cells #[.int .i64 ln, .iface 24 (.int .i64 en)] 28) ∧ n = 2 ∧ E = .iface 76 (.pointer (some ⟨p, 0, none⟩))) ∨ ∃ (v : Value) (m : Nat), Ch w en v m ∧ n = m + 1 ∧ E = .iface 34 (.agg #[v])
  | 0, h => .inl ⟨rfl, h⟩
  | n + 1, h => by
    rcases h with ⟨rfl, q, ln, h1, h2⟩ | ⟨rfl, p, q, ln, h1, h2, h3⟩ | ⟨v, h1, h2⟩
    · exact .inr (.inl ⟨q, ln, h1, rfl, h2⟩)
    · exact .inr (.inr (.inl ⟨p, q, ln, h1, h2, rfl, h3⟩))
    · exact .inr (.inr (.inr ⟨v, n, h2, rfl, h1⟩))
theorem Ch.unique {w : World} {en : Int} : (n : Nat) → (E : Value) → (m : Nat) → Ch w en E n → Ch w en E m → n = m
  | n, E, m, h, h' => by
    rcases h.split with ⟨rfl, e⟩ | ⟨q, ln, _, rfl, e⟩ | ⟨p, q, ln, _, _, rfl, e⟩ | ⟨v, k, hv, rfl, e⟩ <;> rcases h'.split with ⟨rfl, e'⟩ | ⟨q', ln', _, rfl, e'⟩ | ⟨p', q', ln', _, _, rfl, e'⟩ | ⟨v', k', hv', rfl, e'⟩
    all_goals first | rfl | (rw [e] at e'; cases e'; done) | (rw [e] at e'; cases e'; rw [Ch.unique k v k' hv hv'])
theorem chD_eq {w : World} {en : Int} {E : Value} {n : Nat} (h : Ch w en E n) : Classical.epsilon (fun n => Ch w en E n) = n :=
  Ch.unique _ E _ (Classical.epsilon_spec (p := fun n => Ch w en E n) ⟨n, h⟩) h
theorem Ch.iface {w : World} {en : Int} {E : Value} {n : Nat} (h : Ch w en E n) : ∃ t v, E = .iface t v := by
  rcases h.split with ⟨_, e⟩ | ⟨_, _, _, _, e⟩ | ⟨_, _, _, _, _, _, e⟩ | ⟨_, _, _, _, e⟩ <;> exact ⟨_, _, e⟩
theorem Ch.later {w w' : World} {en : Int} : {E : Value} → {n : Nat} → Ch w en E n → RowKit.Below w.heap.size w w' → Ch w' en E n
  | E, n, h, hb => by
    rcases h.split with ⟨rfl, e⟩ | ⟨q, ln, hq, rfl, e⟩ | ⟨p, q, ln, hp, hq, rfl, e⟩ | ⟨v, k, hv, rfl, e⟩
    · rw [e]; exact Ch.num
    · rw [e]; exact Ch.fault q ln (by rw [hb.block q (Array.getElem?_eq_some_iff.1 hq).1]; exact hq)
    · rw [e]; exact Ch.wrong p q ln (by rw [hb.block p (Array.getElem?_eq_some_iff.1 hp).1]; exact hp) (by rw [hb.block q (Array.getElem?_eq_some_iff.1 hq).1]; exact hq)
    · rw [e]; exact Ch.wrap v k (Ch.later hv hb)

theorem mComparable (h : Value) (w : World) : (Go.method 307 108 (.agg #[h]) "Comparable").run Tryz.prog w = .ok (138, .agg #[h]) w := by kernel_rfl
theorem mUnwrapX (v : Value) (w : World) : (Go.method 307 34 v "Unwrap").run Tryz.prog w = .ok (130, v) w := by kernel_rfl
theorem hasUnX (v : Value) (xT : TypeId) (w : World) : (Instr.typeAssert (.iface 34 v) xT 113 true).run Tryz.prog w = .ok (.tuple #[.iface 34 v, .bool true]) w := run_typeAssert_hasB Tryz.underlying113 (by kernel_rfl) v xT w
theorem noUnE (v : Value) (xT : TypeId) (w : World) : (Instr.typeAssert (.iface 24 v) xT 113 true).run Tryz.prog w = .ok (.tuple #[.nilIface, .bool false]) w := run_typeAssert_lacksB Tryz.underlying113 (by kernel_rfl) (by kernel_rfl) v xT w
theorem noUnsE (v : Value) (xT : TypeId) (w : World) : (Instr.typeAssert (.iface 24 v) xT 114 true).run Tryz.prog w = .ok (.tuple #[.nilIface, .bool false]) w := run_typeAssert_lacksB Tryz.underlying114 (by kernel_rfl) (by kernel_rfl) v xT w
theorem noIsE (v : Value) (xT : TypeId) (w : World) : (Instr.typeAssert (.iface 24 v) xT 110 true).run Tryz.prog w = .ok (.tuple #[.nilIface, .bool false]) w := run_typeAssert_lacksB Tryz.underlying110 (by kernel_rfl) (by kernel_rfl) v xT w
theorem noIsF (v : Value) (xT : TypeId) (w : World) : (Instr.typeAssert (.iface 23 v) xT 110 true).run Tryz.prog w = .ok (.tuple #[.nilIface, .bool false]) w := run_typeAssert_lacksB Tryz.underlying110 (by kernel_rfl) (by kernel_rfl) v xT w
theorem noIsW (v : Value) (xT : TypeId) (w : World) : (Instr.typeAssert (.iface 76 v) xT 110 true).run Tryz.prog w = .ok (.tuple #[.nilIface, .bool false]) w := run_typeAssert_lacksB Tryz.underlying110 (by kernel_rfl) (by kernel_rfl) v xT w
theorem noIsX (v : Value) (xT : TypeId) (w : World) : (Instr.typeAssert (.iface 34 v) xT 110 true).run Tryz.prog w = .ok (.tuple #[.nilIface, .bool false]) w := run_typeAssert_lacksB Tryz.underlying110 (by kernel_rfl) (by kernel_rfl) v xT w

set_option maxHeartbeats 4000000 in
theorem is_ch (en k : Int) (E : Value) (n : Nat) (w : World) (hch : Ch w en E n) :
    Calls Tryz.prog 33 #[E, .iface 24 (.int .i64 k), .bool true] w fun e w' => e = .returned (.bool (en == k)) ∧ ∃ os', w' = grow w os' := by
  have n1 := noIsE
  have n2 := noIsF
  have n3 := noIsW
  have n4 := noIsX
  have u1 := noUnE
  have u2 := hasUnF
  have u3 := hasUnW
  have u4 := hasUnX
  have u5 := noUnsE
  have m2 := mUnwrapF
  have m3 := mUnwrapW
  have m4 := mUnwrapX
  have HC : Hid (∃ n, Ch w en E n) := ⟨n, hch⟩
  obtain ⟨r, hr⟩ : ∃ r, r = (en == k) := ⟨_, rfl⟩
  rw [← hr]
  clear hch
  go_enter Tryz.func33, Tryz.ntmps33
  go_wp2
  go_loopw [0] (fun E' wl => (∃ n', Ch w en E' n') ∧ ∃ os, wl = grow w os) (fun E' _ => Classical.epsilon (fun n => Ch w en E' n))
  case atStart => exact ⟨HC.out, #[], (grow_empty _).symm⟩
  case round =>
    obtain ⟨⟨n', hc'⟩, os, hos⟩ := hrel
    have hbel : Below w.heap.size w wr := by rw [hos]; exact below_grow w 0 os
    have HB : Hid (∃ os, wr = grow w os) := ⟨os, hos⟩
    clear hos
    have HL := hc'.later hbel
    rcases hc'.split with ⟨_, hE⟩ | ⟨q, ln, hq, _, hE⟩ | ⟨p, q, ln, hp, hq, _, hE⟩ | ⟨v, m, hv, _, hE⟩ <;> subst hE
    · skip
      have heq := Lib.run_eql_iface_int (P := Tryz.prog) wr (t := 26) (tx := 24) (k := .i64) en k Tryz.underlying26 (by kernel_rfl) Tryz.underlying24
      rw [← hr] at heq
      clear hbel HL hr
      cases r with
      | true =>
        go_wp2
        go_ret
        exact ⟨rfl, HB.out⟩
      | false =>
        go_wp2
        go_ret
        exact ⟨rfl, HB.out⟩
    · skip
      have hty := run_eql_iface_types (P := Tryz.prog) 23 24 (.pointer (some ⟨q, 0, none⟩)) (.int .i64 k) Tryz.underlying26 (by decide) wr
      have HD : Hid (Classical.epsilon (fun n => Ch w en (.iface 23 (.pointer (some ⟨q, 0, none⟩))) n) = 1) := chD_eq (Ch.fault q ln hq)
      have HN : Hid (Ch w en (.iface 24 (.int .i64 en)) 0) := Ch.num
      rw [← hbel.block q (Array.getElem?_eq_some_iff.1 hq).1] at hq
      have hc0 : wr.cell? ⟨q, 0, none⟩ = some (.int .i64 ln) := cell_of_row wr q 0 _ _ _ hq
      have hc1 : wr.cell? ⟨q, 1, none⟩ = some (.iface 24 (.int .i64 en)) := cell_of_row wr q 1 _ _ _ hq
      clear hbel HL hr hq
      go_wp2
      go_roundw
      case rel => exact ⟨⟨_, HN.out⟩, HB.out⟩
      case measure =>
        show Classical.epsilon (fun n => Ch w en (.iface 24 (.int .i64 en)) n) < _
        rw [HD.out, chD_eq HN.out]; omega
    · skip
      have hty := run_eql_iface_types (P := Tryz.prog) 76 24 (.pointer (some ⟨p, 0, none⟩)) (.int .i64 k) Tryz.underlying26 (by decide) wr
      have HD : Hid (Classical.epsilon (fun n => Ch w en (.iface 76 (.pointer (some ⟨p, 0, none⟩))) n) = 2) := chD_eq (Ch.wrong p q ln hp hq)
      have HN : Hid (Ch w en (.iface 23 (.pointer (some ⟨q, 0, none⟩))) 1) := Ch.fault q ln hq
      rw [← hbel.block p (Array.getElem?_eq_some_iff.1 hp).1] at hp
      have hc0 : wr.cell? ⟨p, 0, none⟩ = some (.pointer (some ⟨q, 0, none⟩)) := cell_of_row wr p 0 _ _ _ hp
      clear hbel HL hr hq hp
      go_wp2
      go_roundw
      case rel => exact ⟨⟨_, HN.out⟩, HB.out⟩
      case measure =>
        show Classical.epsilon (fun n => Ch w en (.iface 23 (.pointer (some ⟨q, 0, none⟩))) n) < _
        rw [HD.out, chD_eq HN.out]; omega
    · skip
      have hty := run_eql_iface_types (P := Tryz.prog) 34 24 (.agg #[v]) (.int .i64 k) Tryz.underlying26 (by decide) wr
      have HD : Hid (Classical.epsilon (fun n => Ch w en (.iface 34 (.agg #[v])) n) = m + 1) := chD_eq (Ch.wrap v m hv)
      have HN : Hid (Ch w en v m) := hv
      obtain ⟨t1, v1, rfl⟩ := hv.iface
      have HBA : Hid (∀ o : Obj, ∃ os, wr.alloc o = grow w os) := fun o => by obtain ⟨os, h⟩ := HB.out; exact ⟨os ++ #[o], by rw [h, alloc_eq_grow, grow_grow]⟩
      clear hbel HL hr hv
      go_wp2
      go_roundw
      case rel => exact ⟨⟨_, HN.out⟩, HBA.out _⟩
      case measure =>
        show Classical.epsilon (fun n => Ch w en (.iface t1 v1) n) < _
        rw [HD.out, chD_eq HN.out]; omega

/-- The model's entry for Comparable. -/
def cmpX : Array Value → Sem Value := ReflectliteType.method fun t => do Rtype.noPackHeld "Comparable" t; pure (.bool (← typeInfo t).comparable)
theorem cmpE (W : World) : (cmpX #[.agg #[.pointer (some ⟨7, 24, none⟩)]]).run Tryz.prog W = .ok (.bool true) W := by kernel_rfl
set_option maxHeartbeats 1000000 in
theorem Is_ch (en k : Int) (E : Value) (n : Nat) (w : World) (hch : Ch w en E n) :
    Calls Tryz.prog 16 #[E, .iface 24 (.int .i64 k)] w fun e w' => e = .returned (.bool (en == k)) ∧ ∃ os', w' = grow w os' := by
  have hto := @run_callFunc_extern Tryz.prog 32 _ ReflectliteType.typeOf Tryz.func32 (by kernel_rfl) (by kernel_rfl) (by kernel_rfl) (by kernel_rfl)
  have hcm := @run_callFunc_extern Tryz.prog 138 _ cmpX Tryz.func138 (by kernel_rfl) (by kernel_rfl) (by kernel_rfl) (by kernel_rfl)
  have tT := typeOfE
  have mR := mComparable
  have cT := cmpE
  have HIS : Hid (Calls Tryz.prog 33 #[E, .iface 24 (.int .i64 k), .bool true] w fun e w' => e = .returned (.bool (en == k)) ∧ ∃ os', w' = grow w os') := is_ch en k E n w hch
  obtain ⟨t, v, rfl⟩ := hch.iface
  obtain ⟨r, hr⟩ : ∃ r, r = (en == k) := ⟨_, rfl⟩
  rw [← hr] at HIS ⊢
  clear hch hr
  go_enter Tryz.func16, Tryz.ntmps16
  go_wp2_with (first | (go_at_call 33; refine HIS.out.mono ?_; rintro e w' ⟨rfl, hb⟩))
  go_ret
  exact ⟨rfl, hb⟩
theorem Is_nil (k : Int) (w : World) : Calls Tryz.prog 16 #[.nilIface, .iface 24 (.int .i64 k)] w fun e w' => e = .returned (.bool false) ∧ w' = w := by
  have hn := run_eql_iface_nil_left (P := Tryz.prog) w 24 (.int .i64 k) Tryz.underlying26
  go_enter Tryz.func16, Tryz.ntmps16
  go_wp2
  go_ret
  exact ⟨rfl, rfl⟩
theorem says_ch (en k : Int) (E : Value) (n : Nat) (w : World) (hch : Ch w en E n) :
    Calls Tryz.prog 9 #[E, .int .i64 k] w fun e w' => e = .returned (.bool (en == k)) ∧ ∃ os', w' = grow w os' := by
  have HIS : Hid (Calls Tryz.prog 16 #[E, .iface 24 (.int .i64 k)] w fun e w' => e = .returned (.bool (en == k)) ∧ ∃ os', w' = grow w os') := Is_ch en k E n w hch
  obtain ⟨t, v, rfl⟩ := hch.iface
  obtain ⟨r, hr⟩ : ∃ r, r = (en == k) := ⟨_, rfl⟩
  rw [← hr] at HIS ⊢
  clear hch hr
  go_enter Tryz.func9, Tryz.ntmps9
  go_wp2_with fail
  refine HIS.out.mono ?_
  rintro e w' ⟨rfl, hb⟩
  go_wp2
  go_ret
  exact ⟨rfl, hb⟩
theorem says_nil (k : Int) (w : World) : Calls Tryz.prog 9 #[.nilIface, .int .i64 k] w fun e w' => e = .returned (.bool false) ∧ w' = w := by
  go_enter Tryz.func9, Tryz.ntmps9
  go_wp2_with fail
  refine (Is_nil k w).mono ?_
  rintro e w' ⟨rfl, hw'⟩
  obtain rfl : w = w' := hw'.symm
  go_wp2
  go_ret
  exact ⟨rfl, rfl⟩
end Go.Proofs.YtchdklbekfdgdabGreatDoor
