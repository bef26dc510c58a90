/- The walks of errors.As at both targets, where the error is wrapped any number of times: the *Fault, or the Errno, that is wrapped; no *Fault, where an Errno is. -/
import Derived.Test.YtchdklbekfdgdabGreatDoorPropsIs
namespace Go.Proofs.YtchdklbekfdgdabGreatDoor
open Go.RowKit Go.Sort Go.Extern.Stop Go.Stop Go.Extern
set_option linter.unusedVariables false

/-- It is v, wrapped so many times. -/
def Wr (v : Value) : Value → Nat → Prop
  | E, 0 => E = v
  | E, n + 1 => ∃ E1, E = .iface 34 (.agg #[E1]) ∧ Wr v E1 n
theorem Wr.here {v : Value} : Wr v v 0 := rfl
theorem Wr.wrap {v : Value} (E : Value) (n : Nat) (h : Wr v E n) : Wr v (.iface 34 (.agg #[E])) (n + 1) := ⟨E, rfl, h⟩
theorem Wr.split {v E : Value} : {n : Nat} → Wr v E n → (n = 0 ∧ E = v) ∨ ∃ (E1 : Value) (m : Nat), Wr v E1 m ∧ n = m + 1 ∧ E = .iface 34 (.agg #[E1])
  | 0, h => .inl ⟨rfl, h⟩
  | n + 1, ⟨E1, h1, h2⟩ => .inr ⟨E1, n, h2, rfl, h1⟩
/-- An error that is not of this wrapping. -/
def Bare (v : Value) : Prop := ∃ t x, v = .iface t x ∧ t ≠ 34
theorem Wr.unique {v : Value} (hv : Bare v) : (n : Nat) → (E : Value) → (m : Nat) → Wr v E n → Wr v E m → n = m
  | n, E, m, h, h' => by
    obtain ⟨t, x, hx, ht⟩ := hv
    rcases h.split with ⟨rfl, e⟩ | ⟨E1, k, h1, rfl, e⟩ <;> rcases h'.split with ⟨rfl, e'⟩ | ⟨E2, k', h2, rfl, e'⟩
    · rfl
    · rw [e, hx] at e'; cases e'; exact absurd rfl ht
    · rw [e', hx] at e; cases e; exact absurd rfl ht
    · rw [e] at e'; cases e'; rw [Wr.unique ⟨t, x, hx, ht⟩ k E1 k' h1 h2]
theorem wrD_eq {v E : Value} {n : Nat} (hv : Bare v) (h : Wr v E n) : Classical.epsilon (fun n => Wr v E n) = n :=
  Wr.unique hv _ E _ (Classical.epsilon_spec (p := fun n => Wr v E n) ⟨n, h⟩) h
theorem Wr.iface {v E : Value} {n : Nat} (hv : Bare v) (h : Wr v E n) : ∃ t x, E = .iface t x := by
  rcases h.split with ⟨_, e⟩ | ⟨_, _, _, _, e⟩
  · obtain ⟨t, x, rfl, _⟩ := hv; exact ⟨_, _, e⟩
  · exact ⟨_, _, e⟩
theorem typeOfX (v : Value) (w : World) : (ReflectliteType.typeOf #[.iface 34 v]).run Tryz.prog w = .ok (.iface 108 (.agg #[.pointer (some ⟨7, 34, none⟩)])) w := by kernel_rfl
theorem assignXF (w : World) : (ReflectliteType.relation "AssignableTo" ReflectliteType.assignableTo #[.agg #[.pointer (some ⟨7, 34, none⟩)], .iface 108 (.agg #[.pointer (some ⟨7, 23, none⟩)])]).run Tryz.prog w = .ok (.bool false) w := by kernel_rfl
theorem assignEF (w : World) : (ReflectliteType.relation "AssignableTo" ReflectliteType.assignableTo #[.agg #[.pointer (some ⟨7, 24, none⟩)], .iface 108 (.agg #[.pointer (some ⟨7, 23, none⟩)])]).run Tryz.prog w = .ok (.bool false) w := by kernel_rfl
theorem assignXE (w : World) : (ReflectliteType.relation "AssignableTo" ReflectliteType.assignableTo #[.agg #[.pointer (some ⟨7, 34, none⟩)], .iface 108 (.agg #[.pointer (some ⟨7, 24, none⟩)])]).run Tryz.prog w = .ok (.bool false) w := by kernel_rfl
theorem noAsX (v : Value) (xT : TypeId) (w : World) : (Instr.typeAssert (.iface 34 v) xT 119 true).run Tryz.prog w = .ok (.tuple #[.nilIface, .bool false]) w := run_typeAssert_lacksB Tryz.underlying119 (by kernel_rfl) (by kernel_rfl) v xT w
theorem noAsE (v : Value) (xT : TypeId) (w : World) : (Instr.typeAssert (.iface 24 v) xT 119 true).run Tryz.prog w = .ok (.tuple #[.nilIface, .bool false]) w := run_typeAssert_lacksB Tryz.underlying119 (by kernel_rfl) (by kernel_rfl) v xT w
theorem fz_g {w : World} {a : Addr} (hl : a.block < w.heap.size) (h : w.frozen? a = false) (os : Array Obj) : (grow w os).frozen? a = false := by
  have e : (grow w os).heap[a.block]? = w.heap[a.block]? := by
    show (w.heap ++ os)[a.block]? = w.heap[a.block]?
    rw [Array.getElem?_append_left hl]
  unfold World.frozen? at *
  rw [e]; exact h

set_option maxHeartbeats 4000000 in
theorem aw_FF (q : Nat) (E : Value) (n : Nat) (W : World) (t a : Addr) (old : Value) (ha : W.cell? a = some (.pointer (some t))) (ht : W.cell? t = some old) (hf : W.frozen? t = false) (hw : Wr (.iface 23 (.pointer (some ⟨q, 0, none⟩))) E n) :
    Calls Tryz.prog 37 #[E, .iface 53 (.pointer (some t)), .agg #[.pointer (some ⟨7, 53, none⟩), .pointer (some a), .int .u64 150], .iface 108 (.agg #[.pointer (some ⟨7, 23, none⟩)])] W fun e w' => e = .returned (.bool true) ∧ ∃ os, w' = (grow W os).setCell t (.pointer (some ⟨q, 0, none⟩)) := by
  have hto := @run_callFunc_extern Tryz.prog 32 _ ReflectliteType.typeOf Tryz.func32 (by kernel_rfl) (by kernel_rfl) (by kernel_rfl) (by kernel_rfl)
  have hat := @run_callFunc_extern Tryz.prog 137 _ (ReflectliteType.relation "AssignableTo" ReflectliteType.assignableTo) Tryz.func137 (by kernel_rfl) (by kernel_rfl) (by kernel_rfl) (by kernel_rfl)
  have h50 := @run_callFunc_extern Tryz.prog 34 _ (fun args => ReflectliteValue.unpack (args.getD 0 (.tuple #[]))) Tryz.func34 (by kernel_rfl) (by kernel_rfl) (by kernel_rfl) (by kernel_rfl)
  have hel := @run_callFunc_extern Tryz.prog 51 _ (ReflectliteValue.method (ReflectliteValue.valueError "reflectlite.Value.Elem" 0) ReflectliteValue.elem) Tryz.func51 (by kernel_rfl) (by kernel_rfl) (by kernel_rfl) (by kernel_rfl)
  have hst := @run_callFunc_extern Tryz.prog 52 _ ReflectliteValue.set Tryz.func52 (by kernel_rfl) (by kernel_rfl) (by kernel_rfl) (by kernel_rfl)
  have f0 := typeOfF
  have f1 := typeOfX
  have f2 := assignF
  have f3 := assignXF
  have f4 := noAsX
  have f5 := hasUnX
  have f6 := mUnwrapX
  have f7 := valueOfF
  have g5 := mAssignableTo
  have hbare : Bare (.iface 23 (.pointer (some ⟨q, 0, none⟩))) := ⟨_, _, rfl, by decide⟩
  have HBA : Hid (Bare (.iface 23 (.pointer (some ⟨q, 0, none⟩)))) := hbare
  have HW : Hid (Wr (.iface 23 (.pointer (some ⟨q, 0, none⟩))) E n) := hw
  clear hbare hw
  go_enter Tryz.func37, Tryz.ntmps37
  go_wp2
  go_loopw [0] (fun E' wl => (∃ n', Wr (.iface 23 (.pointer (some ⟨q, 0, none⟩))) E' n') ∧ ∃ os, wl = grow (W.alloc (.cells #[.pointer (some ⟨7, 53, none⟩), .pointer (some a), .int .u64 150] 86)) os) (fun E' _ => Classical.epsilon (fun n => Wr (.iface 23 (.pointer (some ⟨q, 0, none⟩))) E' n))
  case atStart => exact ⟨⟨n, HW.out⟩, #[], (grow_empty _).symm⟩
  case round =>
    obtain ⟨⟨n', hc'⟩, hos⟩ := hrel
    have HO : Hid (∃ os, wr = grow (W.alloc (.cells #[.pointer (some ⟨7, 53, none⟩), .pointer (some a), .int .u64 150] 86)) os) := hos
    have HOW : Hid (∃ os, wr = grow W os) := by obtain ⟨os, h⟩ := hos; exact ⟨#[_] ++ os, by rw [h, alloc_eq_grow, grow_grow]⟩
    clear hos
    rcases hc'.split with ⟨_, hE⟩ | ⟨E1, m, hv, _, hE⟩ <;> subst hE
    · skip
      obtain ⟨os2, hos2⟩ := HO.out
      have hv0 : wr.cell? ⟨W.heap.size, 0, none⟩ = some (.pointer (some ⟨7, 53, none⟩)) := by
        have q : (W.alloc (.cells #[.pointer (some ⟨7, 53, none⟩), .pointer (some a), .int .u64 150] 86)).cell? ⟨W.heap.size, 0, none⟩ = some (.pointer (some ⟨7, 53, none⟩)) := cell_of_row _ _ 0 _ _ _ (heap_alloc_new W _)
        rw [hos2]; exact cell_g q 0 os2
      have hv1 : wr.cell? ⟨W.heap.size, 1, none⟩ = some (.pointer (some a)) := by
        have q : (W.alloc (.cells #[.pointer (some ⟨7, 53, none⟩), .pointer (some a), .int .u64 150] 86)).cell? ⟨W.heap.size, 1, none⟩ = some (.pointer (some a)) := cell_of_row _ _ 1 _ _ _ (heap_alloc_new W _)
        rw [hos2]; exact cell_g q 0 os2
      have hv2 : wr.cell? ⟨W.heap.size, 2, none⟩ = some (.int .u64 150) := by
        have q : (W.alloc (.cells #[.pointer (some ⟨7, 53, none⟩), .pointer (some a), .int .u64 150] 86)).cell? ⟨W.heap.size, 2, none⟩ = some (.int .u64 150) := cell_of_row _ _ 2 _ _ _ (heap_alloc_new W _)
        rw [hos2]; exact cell_g q 0 os2
      clear hos2
      obtain ⟨os, hos⟩ := HOW.out
      have hca : wr.cell? a = some (.pointer (some t)) := by rw [hos]; exact cell_g ha 0 os
      have hct : wr.cell? t = some old := by rw [hos]; exact cell_g ht 0 os
      have htl : t.block < wr.heap.size := World.block_lt_of_cell? wr _ hct
      have hfz : wr.frozen? t = false := by rw [hos]; exact fz_g (World.block_lt_of_cell? W _ ht) hf os
      have ev := elemVF a t wr hca
      have st := setF t ⟨wr.heap.size, 0, none⟩ ⟨q, 0, none⟩ old (wr.alloc (.cells #[.pointer (some ⟨q, 0, none⟩)] 23))
        (by rw [World.cell?_alloc_at _ _ _ _ (by simp)]; rfl)
        (by rw [World.cell?_alloc_lt _ _ t htl]; exact hct)
        (by rw [World.frozen?_alloc_old _ _ t (Nat.ne_of_lt htl)]; exact hfz)
      have HEND : Hid (∃ os', (wr.alloc (.cells #[.pointer (some ⟨q, 0, none⟩)] 23)).setCell t (.pointer (some ⟨q, 0, none⟩)) = (grow W os').setCell t (.pointer (some ⟨q, 0, none⟩))) := ⟨os ++ #[_], by rw [hos, alloc_eq_grow, grow_grow]⟩
      clear hos hct hfz htl
      go_wp2
      go_ret
      exact ⟨rfl, HEND.out⟩
    · skip
      have HD : Hid (Classical.epsilon (fun n => Wr (.iface 23 (.pointer (some ⟨q, 0, none⟩))) (.iface 34 (.agg #[E1])) n) = m + 1) := wrD_eq HBA.out (Wr.wrap E1 m hv)
      have HN : Hid (Wr (.iface 23 (.pointer (some ⟨q, 0, none⟩))) E1 m) := hv
      obtain ⟨t1, v1, rfl⟩ := hv.iface HBA.out
      have HOA : Hid (∀ o : Obj, ∃ os, wr.alloc o = grow (W.alloc (.cells #[.pointer (some ⟨7, 53, none⟩), .pointer (some a), .int .u64 150] 86)) os) := fun o => by obtain ⟨os, h⟩ := HO.out; exact ⟨os ++ #[o], by rw [h, alloc_eq_grow, grow_grow]⟩
      clear hv
      go_wp2
      go_roundw
      case rel => exact ⟨⟨_, HN.out⟩, HOA.out _⟩
      case measure =>
        show Classical.epsilon (fun n => Wr (.iface 23 (.pointer (some ⟨q, 0, none⟩))) (.iface t1 v1) n) < _
        rw [HD.out, wrD_eq HBA.out HN.out]; omega

set_option maxHeartbeats 4000000 in
theorem aw_EE (en : Int) (E : Value) (n : Nat) (W : World) (t a : Addr) (old : Value) (ha : W.cell? a = some (.pointer (some t))) (ht : W.cell? t = some old) (hf : W.frozen? t = false) (hw : Wr (.iface 24 (.int .i64 en)) E n) :
    Calls Tryz.prog 37 #[E, .iface 93 (.pointer (some t)), .agg #[.pointer (some ⟨7, 93, none⟩), .pointer (some a), .int .u64 150], .iface 108 (.agg #[.pointer (some ⟨7, 24, none⟩)])] W fun e w' => e = .returned (.bool true) ∧ ∃ os, w' = (grow W os).setCell t (.int .i64 en) := by
  have hto := @run_callFunc_extern Tryz.prog 32 _ ReflectliteType.typeOf Tryz.func32 (by kernel_rfl) (by kernel_rfl) (by kernel_rfl) (by kernel_rfl)
  have hat := @run_callFunc_extern Tryz.prog 137 _ (ReflectliteType.relation "AssignableTo" ReflectliteType.assignableTo) Tryz.func137 (by kernel_rfl) (by kernel_rfl) (by kernel_rfl) (by kernel_rfl)
  have h50 := @run_callFunc_extern Tryz.prog 34 _ (fun args => ReflectliteValue.unpack (args.getD 0 (.tuple #[]))) Tryz.func34 (by kernel_rfl) (by kernel_rfl) (by kernel_rfl) (by kernel_rfl)
  have hel := @run_callFunc_extern Tryz.prog 51 _ (ReflectliteValue.method (ReflectliteValue.valueError "reflectlite.Value.Elem" 0) ReflectliteValue.elem) Tryz.func51 (by kernel_rfl) (by kernel_rfl) (by kernel_rfl) (by kernel_rfl)
  have hst := @run_callFunc_extern Tryz.prog 52 _ ReflectliteValue.set Tryz.func52 (by kernel_rfl) (by kernel_rfl) (by kernel_rfl) (by kernel_rfl)
  have f0 := typeOfE
  have f1 := typeOfX
  have f2 := assignE
  have f3 := assignXE
  have f4 := noAsX
  have f5 := hasUnX
  have f6 := mUnwrapX
  have f7 := valueOfE
  have g5 := mAssignableTo
  have hbare : Bare (.iface 24 (.int .i64 en)) := ⟨_, _, rfl, by decide⟩
  have HBA : Hid (Bare (.iface 24 (.int .i64 en))) := hbare
  have HW : Hid (Wr (.iface 24 (.int .i64 en)) E n) := hw
  clear hbare hw
  go_enter Tryz.func37, Tryz.ntmps37
  go_wp2
  go_loopw [0] (fun E' wl => (∃ n', Wr (.iface 24 (.int .i64 en)) E' n') ∧ ∃ os, wl = grow (W.alloc (.cells #[.pointer (some ⟨7, 93, none⟩), .pointer (some a), .int .u64 150] 86)) os) (fun E' _ => Classical.epsilon (fun n => Wr (.iface 24 (.int .i64 en)) E' n))
  case atStart => exact ⟨⟨n, HW.out⟩, #[], (grow_empty _).symm⟩
  case round =>
    obtain ⟨⟨n', hc'⟩, hos⟩ := hrel
    have HO : Hid (∃ os, wr = grow (W.alloc (.cells #[.pointer (some ⟨7, 93, none⟩), .pointer (some a), .int .u64 150] 86)) os) := hos
    have HOW : Hid (∃ os, wr = grow W os) := by obtain ⟨os, h⟩ := hos; exact ⟨#[_] ++ os, by rw [h, alloc_eq_grow, grow_grow]⟩
    clear hos
    rcases hc'.split with ⟨_, hE⟩ | ⟨E1, m, hv, _, hE⟩ <;> subst hE
    · skip
      obtain ⟨os2, hos2⟩ := HO.out
      have hv0 : wr.cell? ⟨W.heap.size, 0, none⟩ = some (.pointer (some ⟨7, 93, none⟩)) := by
        have q : (W.alloc (.cells #[.pointer (some ⟨7, 93, none⟩), .pointer (some a), .int .u64 150] 86)).cell? ⟨W.heap.size, 0, none⟩ = some (.pointer (some ⟨7, 93, none⟩)) := cell_of_row _ _ 0 _ _ _ (heap_alloc_new W _)
        rw [hos2]; exact cell_g q 0 os2
      have hv1 : wr.cell? ⟨W.heap.size, 1, none⟩ = some (.pointer (some a)) := by
        have q : (W.alloc (.cells #[.pointer (some ⟨7, 93, none⟩), .pointer (some a), .int .u64 150] 86)).cell? ⟨W.heap.size, 1, none⟩ = some (.pointer (some a)) := cell_of_row _ _ 1 _ _ _ (heap_alloc_new W _)
        rw [hos2]; exact cell_g q 0 os2
      have hv2 : wr.cell? ⟨W.heap.size, 2, none⟩ = some (.int .u64 150) := by
        have q : (W.alloc (.cells #[.pointer (some ⟨7, 93, none⟩), .pointer (some a), .int .u64 150] 86)).cell? ⟨W.heap.size, 2, none⟩ = some (.int .u64 150) := cell_of_row _ _ 2 _ _ _ (heap_alloc_new W _)
        rw [hos2]; exact cell_g q 0 os2
      clear hos2
      obtain ⟨os, hos⟩ := HOW.out
      have hca : wr.cell? a = some (.pointer (some t)) := by rw [hos]; exact cell_g ha 0 os
      have hct : wr.cell? t = some old := by rw [hos]; exact cell_g ht 0 os
      have htl : t.block < wr.heap.size := World.block_lt_of_cell? wr _ hct
      have hfz : wr.frozen? t = false := by rw [hos]; exact fz_g (World.block_lt_of_cell? W _ ht) hf os
      have ev := elemVE a t wr hca
      have st := setE t ⟨wr.heap.size, 0, none⟩ en old (wr.alloc (.cells #[.int .i64 en] 24))
        (by rw [World.cell?_alloc_at _ _ _ _ (by simp)]; rfl)
        (by rw [World.cell?_alloc_lt _ _ t htl]; exact hct)
        (by rw [World.frozen?_alloc_old _ _ t (Nat.ne_of_lt htl)]; exact hfz)
      have HEND : Hid (∃ os', (wr.alloc (.cells #[.int .i64 en] 24)).setCell t (.int .i64 en) = (grow W os').setCell t (.int .i64 en)) := ⟨os ++ #[_], by rw [hos, alloc_eq_grow, grow_grow]⟩
      clear hos hct hfz htl
      go_wp2
      go_ret
      exact ⟨rfl, HEND.out⟩
    · skip
      have HD : Hid (Classical.epsilon (fun n => Wr (.iface 24 (.int .i64 en)) (.iface 34 (.agg #[E1])) n) = m + 1) := wrD_eq HBA.out (Wr.wrap E1 m hv)
      have HN : Hid (Wr (.iface 24 (.int .i64 en)) E1 m) := hv
      obtain ⟨t1, v1, rfl⟩ := hv.iface HBA.out
      have HOA : Hid (∀ o : Obj, ∃ os, wr.alloc o = grow (W.alloc (.cells #[.pointer (some ⟨7, 93, none⟩), .pointer (some a), .int .u64 150] 86)) os) := fun o => by obtain ⟨os, h⟩ := HO.out; exact ⟨os ++ #[o], by rw [h, alloc_eq_grow, grow_grow]⟩
      clear hv
      go_wp2
      go_roundw
      case rel => exact ⟨⟨_, HN.out⟩, HOA.out _⟩
      case measure =>
        show Classical.epsilon (fun n => Wr (.iface 24 (.int .i64 en)) (.iface t1 v1) n) < _
        rw [HD.out, wrD_eq HBA.out HN.out]; omega

set_option maxHeartbeats 4000000 in
theorem aw_EF (en : Int) (E : Value) (n : Nat) (W : World) (a : Addr) (t : Addr) (hw : Wr (.iface 24 (.int .i64 en)) E n) :
    Calls Tryz.prog 37 #[E, .iface 53 (.pointer (some t)), .agg #[.pointer (some ⟨7, 53, none⟩), .pointer (some a), .int .u64 150], .iface 108 (.agg #[.pointer (some ⟨7, 23, none⟩)])] W fun e w' => e = .returned (.bool false) ∧ ∃ os, w' = grow W os := by
  have hto := @run_callFunc_extern Tryz.prog 32 _ ReflectliteType.typeOf Tryz.func32 (by kernel_rfl) (by kernel_rfl) (by kernel_rfl) (by kernel_rfl)
  have hat := @run_callFunc_extern Tryz.prog 137 _ (ReflectliteType.relation "AssignableTo" ReflectliteType.assignableTo) Tryz.func137 (by kernel_rfl) (by kernel_rfl) (by kernel_rfl) (by kernel_rfl)
  have h50 := @run_callFunc_extern Tryz.prog 34 _ (fun args => ReflectliteValue.unpack (args.getD 0 (.tuple #[]))) Tryz.func34 (by kernel_rfl) (by kernel_rfl) (by kernel_rfl) (by kernel_rfl)
  have hel := @run_callFunc_extern Tryz.prog 51 _ (ReflectliteValue.method (ReflectliteValue.valueError "reflectlite.Value.Elem" 0) ReflectliteValue.elem) Tryz.func51 (by kernel_rfl) (by kernel_rfl) (by kernel_rfl) (by kernel_rfl)
  have hst := @run_callFunc_extern Tryz.prog 52 _ ReflectliteValue.set Tryz.func52 (by kernel_rfl) (by kernel_rfl) (by kernel_rfl) (by kernel_rfl)
  have f0 := typeOfE
  have f1 := typeOfX
  have f2 := assignEF
  have f3 := assignXF
  have f4 := noAsX
  have f5 := noAsE
  have f6 := hasUnX
  have f7 := mUnwrapX
  have f8 := noUnE
  have f9 := noUnsE
  have g5 := mAssignableTo
  have hbare : Bare (.iface 24 (.int .i64 en)) := ⟨_, _, rfl, by decide⟩
  have HBA : Hid (Bare (.iface 24 (.int .i64 en))) := hbare
  have HW : Hid (Wr (.iface 24 (.int .i64 en)) E n) := hw
  clear hbare hw
  go_enter Tryz.func37, Tryz.ntmps37
  go_wp2
  go_loopw [0] (fun E' wl => (∃ n', Wr (.iface 24 (.int .i64 en)) E' n') ∧ ∃ os, wl = grow (W.alloc (.cells #[.pointer (some ⟨7, 53, none⟩), .pointer (some a), .int .u64 150] 86)) os) (fun E' _ => Classical.epsilon (fun n => Wr (.iface 24 (.int .i64 en)) E' n))
  case atStart => exact ⟨⟨n, HW.out⟩, #[], (grow_empty _).symm⟩
  case round =>
    obtain ⟨⟨n', hc'⟩, hos⟩ := hrel
    have HO : Hid (∃ os, wr = grow (W.alloc (.cells #[.pointer (some ⟨7, 53, none⟩), .pointer (some a), .int .u64 150] 86)) os) := hos
    have HOW : Hid (∃ os, wr = grow W os) := by obtain ⟨os, h⟩ := hos; exact ⟨#[_] ++ os, by rw [h, alloc_eq_grow, grow_grow]⟩
    clear hos
    rcases hc'.split with ⟨_, hE⟩ | ⟨E1, m, hv, _, hE⟩ <;> subst hE
    · skip
      go_wp2
      go_ret
      exact ⟨rfl, HOW.out⟩
    · skip
      have HD : Hid (Classical.epsilon (fun n => Wr (.iface 24 (.int .i64 en)) (.iface 34 (.agg #[E1])) n) = m + 1) := wrD_eq HBA.out (Wr.wrap E1 m hv)
      have HN : Hid (Wr (.iface 24 (.int .i64 en)) E1 m) := hv
      obtain ⟨t1, v1, rfl⟩ := hv.iface HBA.out
      have HOA : Hid (∀ o : Obj, ∃ os, wr.alloc o = grow (W.alloc (.cells #[.pointer (some ⟨7, 53, none⟩), .pointer (some a), .int .u64 150] 86)) os) := fun o => by obtain ⟨os, h⟩ := HO.out; exact ⟨os ++ #[o], by rw [h, alloc_eq_grow, grow_grow]⟩
      clear hv
      go_wp2
      go_roundw
      case rel => exact ⟨⟨_, HN.out⟩, HOA.out _⟩
      case measure =>
        show Classical.epsilon (fun n => Wr (.iface 24 (.int .i64 en)) (.iface t1 v1) n) < _
        rw [HD.out, wrD_eq HBA.out HN.out]; omega

set_option maxHeartbeats 4000000 in
theorem As_FF (q : Nat) (E : Value) (n : Nat) (t : Addr) (w : World) (hg : Gl w) (old : Value) (ht : w.cell? t = some old) (hf : w.frozen? t = false) (hw : Wr (.iface 23 (.pointer (some ⟨q, 0, none⟩))) E n) :
    Calls Tryz.prog 17 #[E, .iface 53 (.pointer (some t))] w fun e w' => e = .returned (.bool true) ∧ ∃ os, w' = (grow w os).setCell t (.pointer (some ⟨q, 0, none⟩)) := by
  have h50 := @run_callFunc_extern Tryz.prog 34 _ (fun args => ReflectliteValue.unpack (args.getD 0 (.tuple #[]))) Tryz.func34 (by kernel_rfl) (by kernel_rfl) (by kernel_rfl) (by kernel_rfl)
  have h51 := @run_callFunc_extern Tryz.prog 35 _ (ReflectliteValue.methodAny (ReflectliteValue.valueError "reflectlite.Value.Type" 0) (fun t _ _ _ => ReflectliteType.toType t)) Tryz.func35 (by kernel_rfl) (by kernel_rfl) (by kernel_rfl) (by kernel_rfl)
  have h52 := @run_callFunc_extern Tryz.prog 36 _ (ReflectliteValue.method (ReflectliteValue.valueError "reflectlite.Value.IsNil" 0) ReflectliteValue.isNil) Tryz.func36 (by kernel_rfl) (by kernel_rfl) (by kernel_rfl) (by kernel_rfl)
  have hk := @run_callFunc_extern Tryz.prog 125 _ (ReflectliteType.abiMethod fun t => do pure (.int .u8 (← Rtype.kind t))) Tryz.func125 (by kernel_rfl) (by kernel_rfl) (by kernel_rfl) (by kernel_rfl)
  have he := @run_callFunc_extern Tryz.prog 139 _ (ReflectliteType.method ReflectliteType.elem) Tryz.func139 (by kernel_rfl) (by kernel_rfl) (by kernel_rfl) (by kernel_rfl)
  have him := @run_callFunc_extern Tryz.prog 140 _ (ReflectliteType.relation "Implements" ReflectliteType.implements_) Tryz.func140 (by kernel_rfl) (by kernel_rfl) (by kernel_rfl) (by kernel_rfl)
  have g0 := valueOfPF
  have g1 := typePF
  have g2 := mKind
  have g3 := mElem
  have g4 := mImplements
  have g6 := kindPF
  have g7 := kindF
  have g8 := elemPF
  have g9 := implF
  have n8 := isNilPF ⟨w.heap.size, 0, none⟩ t ((w.alloc (.cells #[.pointer (some t)] 53)).alloc (.cells #[.pointer (some ⟨7, 53, none⟩), .pointer (some ⟨w.heap.size, 0, none⟩), .int .u64 150] 86)) (by simp)
  have hg0 := hg.2
  have hlt : 0 < w.heap.size := World.block_lt_of_cell? w _ hg0
  have hg2 : ((w.alloc (.cells #[.pointer (some t)] 53)).alloc (.cells #[.pointer (some ⟨7, 53, none⟩), .pointer (some ⟨w.heap.size, 0, none⟩), .int .u64 150] 86)).cell? ⟨0, 0, none⟩ = some (.iface 108 (.agg #[.pointer (some ⟨7, 26, none⟩)])) := by
    rw [World.cell?_alloc_lt _ _ ⟨0, 0, none⟩ (by first | (simp; done) | (simp; omega)), World.cell?_alloc_lt _ _ ⟨0, 0, none⟩ hlt]; exact hg0
  have HAS : Hid (Calls Tryz.prog 37 #[E, .iface 53 (.pointer (some t)), .agg #[.pointer (some ⟨7, 53, none⟩), .pointer (some ⟨w.heap.size, 0, none⟩), .int .u64 150], .iface 108 (.agg #[.pointer (some ⟨7, 23, none⟩)])] ((w.alloc (.cells #[.pointer (some t)] 53)).alloc (.cells #[.pointer (some ⟨7, 53, none⟩), .pointer (some ⟨w.heap.size, 0, none⟩), .int .u64 150] 86)) fun e w' => e = .returned (.bool true) ∧ ∃ os, w' = (grow w os).setCell t (.pointer (some ⟨q, 0, none⟩))) := by
    obtain ⟨W, hW⟩ : ∃ W, W = ((w.alloc (.cells #[.pointer (some t)] 53)).alloc (.cells #[.pointer (some ⟨7, 53, none⟩), .pointer (some ⟨w.heap.size, 0, none⟩), .int .u64 150] 86)) := ⟨_, rfl⟩
    have htl : t.block < w.heap.size := World.block_lt_of_cell? w _ ht
    have hca : W.cell? ⟨w.heap.size, 0, none⟩ = some (.pointer (some t)) := by
      rw [hW, World.cell?_alloc_lt _ _ ⟨w.heap.size, 0, none⟩ (by simp)]
      exact cell_of_row _ _ 0 _ _ _ (heap_alloc_new w _)
    have hct : W.cell? t = some old := by rw [hW, World.cell?_alloc_lt _ _ t (by simp; omega), World.cell?_alloc_lt _ _ t htl]; exact ht
    have hcf : W.frozen? t = false := by rw [hW, World.frozen?_alloc_old _ _ t (by simp; omega), World.frozen?_alloc_old _ _ t (Nat.ne_of_lt htl)]; exact hf
    rw [← hW]
    refine (aw_FF q E n W t ⟨w.heap.size, 0, none⟩ old hca hct hcf hw).mono ?_
    rintro e w' ⟨rfl, os, rfl⟩
    exact ⟨rfl, #[_] ++ (#[_] ++ os), by rw [hW, alloc_eq_grow, alloc_eq_grow, grow_grow, grow_grow]⟩
  obtain ⟨t1, v1, rfl⟩ := hw.iface ⟨_, _, rfl, by decide⟩
  clear hg hg0 hw
  go_enter Tryz.func17, Tryz.ntmps17
  go_wp2_with (first | (go_at_call 37; refine HAS.out.mono ?_; rintro e w' ⟨rfl, hend⟩))
  go_ret
  exact ⟨rfl, hend⟩

set_option maxHeartbeats 4000000 in
theorem As_EE (en : Int) (E : Value) (n : Nat) (t : Addr) (w : World) (hg : Gl w) (old : Value) (ht : w.cell? t = some old) (hf : w.frozen? t = false) (hw : Wr (.iface 24 (.int .i64 en)) E n) :
    Calls Tryz.prog 17 #[E, .iface 93 (.pointer (some t))] w fun e w' => e = .returned (.bool true) ∧ ∃ os, w' = (grow w os).setCell t (.int .i64 en) := by
  have h50 := @run_callFunc_extern Tryz.prog 34 _ (fun args => ReflectliteValue.unpack (args.getD 0 (.tuple #[]))) Tryz.func34 (by kernel_rfl) (by kernel_rfl) (by kernel_rfl) (by kernel_rfl)
  have h51 := @run_callFunc_extern Tryz.prog 35 _ (ReflectliteValue.methodAny (ReflectliteValue.valueError "reflectlite.Value.Type" 0) (fun t _ _ _ => ReflectliteType.toType t)) Tryz.func35 (by kernel_rfl) (by kernel_rfl) (by kernel_rfl) (by kernel_rfl)
  have h52 := @run_callFunc_extern Tryz.prog 36 _ (ReflectliteValue.method (ReflectliteValue.valueError "reflectlite.Value.IsNil" 0) ReflectliteValue.isNil) Tryz.func36 (by kernel_rfl) (by kernel_rfl) (by kernel_rfl) (by kernel_rfl)
  have hk := @run_callFunc_extern Tryz.prog 125 _ (ReflectliteType.abiMethod fun t => do pure (.int .u8 (← Rtype.kind t))) Tryz.func125 (by kernel_rfl) (by kernel_rfl) (by kernel_rfl) (by kernel_rfl)
  have he := @run_callFunc_extern Tryz.prog 139 _ (ReflectliteType.method ReflectliteType.elem) Tryz.func139 (by kernel_rfl) (by kernel_rfl) (by kernel_rfl) (by kernel_rfl)
  have him := @run_callFunc_extern Tryz.prog 140 _ (ReflectliteType.relation "Implements" ReflectliteType.implements_) Tryz.func140 (by kernel_rfl) (by kernel_rfl) (by kernel_rfl) (by kernel_rfl)
  have g0 := valueOfPE
  have g1 := typePE
  have g2 := mKind
  have g3 := mElem
  have g4 := mImplements
  have g6 := kindPE
  have g7 := kindE
  have g8 := elemPE
  have g9 := implE
  have n8 := isNilPE ⟨w.heap.size, 0, none⟩ t ((w.alloc (.cells #[.pointer (some t)] 93)).alloc (.cells #[.pointer (some ⟨7, 93, none⟩), .pointer (some ⟨w.heap.size, 0, none⟩), .int .u64 150] 86)) (by simp)
  have hg0 := hg.2
  have hlt : 0 < w.heap.size := World.block_lt_of_cell? w _ hg0
  have hg2 : ((w.alloc (.cells #[.pointer (some t)] 93)).alloc (.cells #[.pointer (some ⟨7, 93, none⟩), .pointer (some ⟨w.heap.size, 0, none⟩), .int .u64 150] 86)).cell? ⟨0, 0, none⟩ = some (.iface 108 (.agg #[.pointer (some ⟨7, 26, none⟩)])) := by
    rw [World.cell?_alloc_lt _ _ ⟨0, 0, none⟩ (by first | (simp; done) | (simp; omega)), World.cell?_alloc_lt _ _ ⟨0, 0, none⟩ hlt]; exact hg0
  have HAS : Hid (Calls Tryz.prog 37 #[E, .iface 93 (.pointer (some t)), .agg #[.pointer (some ⟨7, 93, none⟩), .pointer (some ⟨w.heap.size, 0, none⟩), .int .u64 150], .iface 108 (.agg #[.pointer (some ⟨7, 24, none⟩)])] ((w.alloc (.cells #[.pointer (some t)] 93)).alloc (.cells #[.pointer (some ⟨7, 93, none⟩), .pointer (some ⟨w.heap.size, 0, none⟩), .int .u64 150] 86)) fun e w' => e = .returned (.bool true) ∧ ∃ os, w' = (grow w os).setCell t (.int .i64 en)) := by
    obtain ⟨W, hW⟩ : ∃ W, W = ((w.alloc (.cells #[.pointer (some t)] 93)).alloc (.cells #[.pointer (some ⟨7, 93, none⟩), .pointer (some ⟨w.heap.size, 0, none⟩), .int .u64 150] 86)) := ⟨_, rfl⟩
    have htl : t.block < w.heap.size := World.block_lt_of_cell? w _ ht
    have hca : W.cell? ⟨w.heap.size, 0, none⟩ = some (.pointer (some t)) := by
      rw [hW, World.cell?_alloc_lt _ _ ⟨w.heap.size, 0, none⟩ (by simp)]
      exact cell_of_row _ _ 0 _ _ _ (heap_alloc_new w _)
    have hct : W.cell? t = some old := by rw [hW, World.cell?_alloc_lt _ _ t (by simp; omega), World.cell?_alloc_lt _ _ t htl]; exact ht
    have hcf : W.frozen? t = false := by rw [hW, World.frozen?_alloc_old _ _ t (by simp; omega), World.frozen?_alloc_old _ _ t (Nat.ne_of_lt htl)]; exact hf
    rw [← hW]
    refine (aw_EE en E n W t ⟨w.heap.size, 0, none⟩ old hca hct hcf hw).mono ?_
    rintro e w' ⟨rfl, os, rfl⟩
    exact ⟨rfl, #[_] ++ (#[_] ++ os), by rw [hW, alloc_eq_grow, alloc_eq_grow, grow_grow, grow_grow]⟩
  obtain ⟨t1, v1, rfl⟩ := hw.iface ⟨_, _, rfl, by decide⟩
  clear hg hg0 hw
  go_enter Tryz.func17, Tryz.ntmps17
  go_wp2_with (first | (go_at_call 37; refine HAS.out.mono ?_; rintro e w' ⟨rfl, hend⟩))
  go_ret
  exact ⟨rfl, hend⟩

set_option maxHeartbeats 4000000 in
theorem As_EF (en : Int) (E : Value) (n : Nat) (t : Addr) (w : World) (hg : Gl w)  (hw : Wr (.iface 24 (.int .i64 en)) E n) :
    Calls Tryz.prog 17 #[E, .iface 53 (.pointer (some t))] w fun e w' => e = .returned (.bool false) ∧ ∃ os, w' = grow w os := by
  have h50 := @run_callFunc_extern Tryz.prog 34 _ (fun args => ReflectliteValue.unpack (args.getD 0 (.tuple #[]))) Tryz.func34 (by kernel_rfl) (by kernel_rfl) (by kernel_rfl) (by kernel_rfl)
  have h51 := @run_callFunc_extern Tryz.prog 35 _ (ReflectliteValue.methodAny (ReflectliteValue.valueError "reflectlite.Value.Type" 0) (fun t _ _ _ => ReflectliteType.toType t)) Tryz.func35 (by kernel_rfl) (by kernel_rfl) (by kernel_rfl) (by kernel_rfl)
  have h52 := @run_callFunc_extern Tryz.prog 36 _ (ReflectliteValue.method (ReflectliteValue.valueError "reflectlite.Value.IsNil" 0) ReflectliteValue.isNil) Tryz.func36 (by kernel_rfl) (by kernel_rfl) (by kernel_rfl) (by kernel_rfl)
  have hk := @run_callFunc_extern Tryz.prog 125 _ (ReflectliteType.abiMethod fun t => do pure (.int .u8 (← Rtype.kind t))) Tryz.func125 (by kernel_rfl) (by kernel_rfl) (by kernel_rfl) (by kernel_rfl)
  have he := @run_callFunc_extern Tryz.prog 139 _ (ReflectliteType.method ReflectliteType.elem) Tryz.func139 (by kernel_rfl) (by kernel_rfl) (by kernel_rfl) (by kernel_rfl)
  have him := @run_callFunc_extern Tryz.prog 140 _ (ReflectliteType.relation "Implements" ReflectliteType.implements_) Tryz.func140 (by kernel_rfl) (by kernel_rfl) (by kernel_rfl) (by kernel_rfl)
  have g0 := valueOfPF
  have g1 := typePF
  have g2 := mKind
  have g3 := mElem
  have g4 := mImplements
  have g6 := kindPF
  have g7 := kindF
  have g8 := elemPF
  have g9 := implF
  have n8 := isNilPF ⟨w.heap.size, 0, none⟩ t ((w.alloc (.cells #[.pointer (some t)] 53)).alloc (.cells #[.pointer (some ⟨7, 53, none⟩), .pointer (some ⟨w.heap.size, 0, none⟩), .int .u64 150] 86)) (by simp)
  have hg0 := hg.2
  have hlt : 0 < w.heap.size := World.block_lt_of_cell? w _ hg0
  have hg2 : ((w.alloc (.cells #[.pointer (some t)] 53)).alloc (.cells #[.pointer (some ⟨7, 53, none⟩), .pointer (some ⟨w.heap.size, 0, none⟩), .int .u64 150] 86)).cell? ⟨0, 0, none⟩ = some (.iface 108 (.agg #[.pointer (some ⟨7, 26, none⟩)])) := by
    rw [World.cell?_alloc_lt _ _ ⟨0, 0, none⟩ (by first | (simp; done) | (simp; omega)), World.cell?_alloc_lt _ _ ⟨0, 0, none⟩ hlt]; exact hg0
  have HAS : Hid (Calls Tryz.prog 37 #[E, .iface 53 (.pointer (some t)), .agg #[.pointer (some ⟨7, 53, none⟩), .pointer (some ⟨w.heap.size, 0, none⟩), .int .u64 150], .iface 108 (.agg #[.pointer (some ⟨7, 23, none⟩)])] ((w.alloc (.cells #[.pointer (some t)] 53)).alloc (.cells #[.pointer (some ⟨7, 53, none⟩), .pointer (some ⟨w.heap.size, 0, none⟩), .int .u64 150] 86)) fun e w' => e = .returned (.bool false) ∧ ∃ os, w' = grow w os) := by
    obtain ⟨W, hW⟩ : ∃ W, W = ((w.alloc (.cells #[.pointer (some t)] 53)).alloc (.cells #[.pointer (some ⟨7, 53, none⟩), .pointer (some ⟨w.heap.size, 0, none⟩), .int .u64 150] 86)) := ⟨_, rfl⟩
    rw [← hW]
    refine (aw_EF en E n W ⟨w.heap.size, 0, none⟩ t hw).mono ?_
    rintro e w' ⟨rfl, os, rfl⟩
    exact ⟨rfl, #[_] ++ (#[_] ++ os), by rw [hW, alloc_eq_grow, alloc_eq_grow, grow_grow, grow_grow]⟩
  obtain ⟨t1, v1, rfl⟩ := hw.iface ⟨_, _, rfl, by decide⟩
  clear hg hg0 hw
  go_enter Tryz.func17, Tryz.ntmps17
  go_wp2_with (first | (go_at_call 37; refine HAS.out.mono ?_; rintro e w' ⟨rfl, hend⟩))
  go_ret
  exact ⟨rfl, hend⟩
end Go.Proofs.YtchdklbekfdgdabGreatDoor
