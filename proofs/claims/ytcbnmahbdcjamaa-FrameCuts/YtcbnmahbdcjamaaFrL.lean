/- What frame's Of needs: bytes of a string, the deferred closure that recovers, the exit of a panic. -/
import Derived.Test.YtcbnmahbdcjamaaFrK
import Derived.Lib.ConvBytes
import Derived.Laws.AppendOwn
namespace Go.Proofs.Ytcbnmahbdcjamaa
open Go.RowKit
set_option linter.unusedVariables false
set_option linter.unusedSimpArgs false

theorem str_byte (bs : List Int) (hb : Byt bs) (j : Nat) (hj : j < bs.length) : (((strOfNums bs).data.toList.getD j 0).toNat : Int) = bs.getD j 0 := by
  have h0 := hb (bs.getD j 0) (by simp [hj])
  have e : (strOfNums bs).data.toList = bs.map fun n => UInt8.ofNat n.toNat := by simp [strOfNums]
  rw [e]
  simp [hj] at h0 ⊢
  omega
/-- The bytes of a string, as a row of the call's own. -/
theorem conv_bytes (bs : List Int) (hb : Byt bs) (hl : bs.length ≤ 1000000000) (W : World) : ∃ (c : Nat) (W' : World), (convert 9 53 (.string (strOfNums bs))).run Try.prog W = .ok (.slice (some ⟨W.heap.size, 0, none⟩) bs.length c) W' ∧ bs.length ≤ c ∧ Below W.heap.size W W' ∧ W'.heap.size = W.heap.size + 1 ∧ Rd .u8 W' (some ⟨W.heap.size, 0, none⟩) bs.length bs ∧
    ∃ cs : Array Value, cs.size = c ∧ W'.heap[W.heap.size]? = some (.cells cs 5 (c, c + 1)) := by
  have hsz : (strOfNums bs).size = bs.length := strOfNums_size bs
  have hr := Lib.run_convert_string_bytes (P := Try.prog) W 9 53 5 (strOfNums bs) Try.underlying9 Try.underlying53 Try.underlying5
  rw [hsz] at hr
  have hge := grownCap_ge W bs.length 0 5
  have hcs : (Lib.bytesCells W 5 (strOfNums bs)).size = grownCap W bs.length 0 5 := by
    unfold Lib.bytesCells
    have h2 : (strOfNums bs).data.size = bs.length := hsz
    rw [hsz]
    simp [h2]
    omega
  refine ⟨_, _, hr, hge, ⟨rfl, rfl, rfl, by rw [Lib.bytesWorld_size]; omega, fun k hk => Lib.bytesWorld_at_old W _ _ k hk⟩, Lib.bytesWorld_size W _ _, ⟨rfl, fun hp => ⟨W.heap.size, 0, rfl, fun i hi => ?_⟩⟩, _, hcs, by rw [Lib.bytesWorld_at_new, hcs]⟩
  rw [Nat.zero_add, Lib.bytesWorld_cell W _ _ i (by rw [hsz]; exact hi)]
  rw [str_byte bs hb i hi]
/-- The deferred closure of Of, in a frame that panics: it recovers, and lays an empty frame and ErrForm. -/
theorem catch_pan (F E : Nat) (f0 f1 f2 f3 f4 g0 : Value) (T : TypeId) (pv : Value) (older : List PanicEntry) (w : World) (hFE : F ≠ E)
    (hF : w.heap[F]? = some (.cells #[f0, f1, f2, f3, f4] 51)) (hE : w.heap[E]? = some (.cells #[g0] 28)) :
    CallsD Try.prog 82 #[.pointer (some ⟨F, 0, none⟩), .pointer (some ⟨E, 0, none⟩)] (.panicking ({ v := .iface T pv, recovered := false } :: older)) w fun e u' w' =>
      e = .returned (.tuple #[]) ∧ u' = .panicking ({ v := .iface T pv, recovered := true } :: older) ∧ Chg w w' (fun k => k = F ∨ k = E) ∧ w'.heap[F]? = some (.cells #[.int .i64 0, .int .i64 0, .slice none 0 0, .slice none 0 0, .int .i64 0] 51) ∧ w'.heap[E]? = some (.cells #[.int .i64 2] 28) := by
  have c0 : w.cell? ⟨F, 0, none⟩ = some f0 := cell_of_row w F 0 _ _ _ hF
  have c1 : w.cell? ⟨F, 1, none⟩ = some f1 := cell_of_row w F 1 _ _ _ hF
  have c2 : w.cell? ⟨F, 2, none⟩ = some f2 := cell_of_row w F 2 _ _ _ hF
  have c3 : w.cell? ⟨F, 3, none⟩ = some f3 := cell_of_row w F 3 _ _ _ hF
  have c4 : w.cell? ⟨F, 4, none⟩ = some f4 := cell_of_row w F 4 _ _ _ hF
  have ce : w.cell? ⟨E, 0, none⟩ = some g0 := cell_of_row w E 0 _ _ _ hE
  have z0 : w.frozen? ⟨F, 0, none⟩ = false := Lib.frozen_of_heap hF _
  have z1 : w.frozen? ⟨F, 1, none⟩ = false := Lib.frozen_of_heap hF _
  have z2 : w.frozen? ⟨F, 2, none⟩ = false := Lib.frozen_of_heap hF _
  have z3 : w.frozen? ⟨F, 3, none⟩ = false := Lib.frozen_of_heap hF _
  have z4 : w.frozen? ⟨F, 4, none⟩ = false := Lib.frozen_of_heap hF _
  have ze : w.frozen? ⟨E, 0, none⟩ = false := Lib.frozen_of_heap hE _
  have hEF : E ≠ F := fun e => hFE e.symm
  have HFIN : ∀ W : World, W = (((((w.setCell ⟨F, 0, none⟩ (.int .i64 0)).setCell ⟨F, 1, none⟩ (.int .i64 0)).setCell ⟨F, 2, none⟩ (.slice none 0 0)).setCell ⟨F, 3, none⟩ (.slice none 0 0)).setCell ⟨F, 4, none⟩ (.int .i64 0)).setCell ⟨E, 0, none⟩ (.int .i64 2) → Chg w W (fun k => k = F ∨ k = E) ∧ W.heap[F]? = some (.cells #[.int .i64 0, .int .i64 0, .slice none 0 0, .slice none 0 0, .int .i64 0] 51) ∧ W.heap[E]? = some (.cells #[.int .i64 2] 28) := by
    intro W hW
    subst hW
    have q0 := cg_set w F 0 (.int .i64 0)
    have q1 := cg_set (w.setCell ⟨F, 0, none⟩ (.int .i64 0)) F 1 (.int .i64 0)
    have q2 := cg_set ((w.setCell ⟨F, 0, none⟩ (.int .i64 0)).setCell ⟨F, 1, none⟩ (.int .i64 0)) F 2 (.slice none 0 0)
    have q3 := cg_set (((w.setCell ⟨F, 0, none⟩ (.int .i64 0)).setCell ⟨F, 1, none⟩ (.int .i64 0)).setCell ⟨F, 2, none⟩ (.slice none 0 0)) F 3 (.slice none 0 0)
    have q4 := cg_set ((((w.setCell ⟨F, 0, none⟩ (.int .i64 0)).setCell ⟨F, 1, none⟩ (.int .i64 0)).setCell ⟨F, 2, none⟩ (.slice none 0 0)).setCell ⟨F, 3, none⟩ (.slice none 0 0)) F 4 (.int .i64 0)
    have q5 := cg_trans (cg_trans (cg_trans (cg_trans q0 q1 (fun _ _ h => h)) q2 (fun _ _ h => h)) q3 (fun _ _ h => h)) q4 (fun _ _ h => h)
    have r0 := heap_setX w F 0 (.int .i64 0) _ _ _ hF
    have r1 := heap_setX _ F 1 (.int .i64 0) _ _ _ r0
    have r2 := heap_setX _ F 2 (.slice none 0 0) _ _ _ r1
    have r3 := heap_setX _ F 3 (.slice none 0 0) _ _ _ r2
    have r4 := heap_setX _ F 4 (.int .i64 0) _ _ _ r3
    have e5 := cg_heap q5 hE hEF
    refine ⟨cg_trans (cg_trans (cg_refl w (fun k => k = F ∨ k = E)) q5 (fun _ _ h => .inl h)) (cg_set _ E 0 (.int .i64 2)) (fun _ _ h => .inr h), ?_, ?_⟩
    · exact (cg_heap (cg_set _ E 0 (.int .i64 2)) r4 hFE).trans (by rfl)
    · exact (heap_setX _ E 0 (.int .i64 2) _ _ _ e5).trans (by rfl)
  clear hF hE
  refine callsD_of_wpS Try.func82 rfl fun c₀ cs hu => ?_
  apply wpS_seq
  apply wpS_region
  simp [wpOpsS, go_sem, recoverD, hu, Try.ntmps82, Exit.thenS]
  refine wpS_cond (t := true) (by simp [Act.eval, Array.replicate]) ?_
  simp only [if_true]
  refine wpS_of_wp ?_
  have HF : Hid (∀ W : World, W = (((((w.setCell ⟨F, 0, none⟩ (.int .i64 0)).setCell ⟨F, 1, none⟩ (.int .i64 0)).setCell ⟨F, 2, none⟩ (.slice none 0 0)).setCell ⟨F, 3, none⟩ (.slice none 0 0)).setCell ⟨F, 4, none⟩ (.int .i64 0)).setCell ⟨E, 0, none⟩ (.int .i64 2) → Chg w W (fun k => k = F ∨ k = E) ∧ W.heap[F]? = some (.cells #[.int .i64 0, .int .i64 0, .slice none 0 0, .slice none 0 0, .int .i64 0] 51) ∧ W.heap[E]? = some (.cells #[.int .i64 2] 28)) := HFIN
  clear HFIN
  go_wp2
  refine ⟨rfl, _, rfl, .tuple #[], by simp [results, Try.results82], rfl, rfl, ?_⟩
  obtain ⟨q1, q2, q3⟩ := HF.out _ rfl
  exact ⟨q1, q2, q3⟩
theorem catch_idle (F E : Nat) (w : World) :
    CallsD Try.prog 82 #[.pointer (some ⟨F, 0, none⟩), .pointer (some ⟨E, 0, none⟩)] .returning w fun e u' w' => e = .returned (.tuple #[]) ∧ u' = .returning ∧ w' = w := by
  refine callsD_of_wpS Try.func82 rfl fun c₀ cs hu => ?_
  apply wpS_seq
  apply wpS_region
  simp [wpOpsS, go_sem, recoverD, hu, Try.ntmps82, Exit.thenS]
  refine wpS_cond (t := false) (by simp [Act.eval, Array.replicate]) ?_
  simp only [Bool.false_eq_true, if_false]
  refine wpS_of_wp (wp_skip ?_)
  cases c₀
  simp_all [bodyPostS, results, Try.results82]
theorem leaves_tmps {fn : Func} {R : Ending → World → Prop} {t t' : Array Value} (h : results fn t = results fn t') : (ds : List Deferred) → (u : FrameMode) → (w : World) → Leaves Try.prog fn t R ds u w → Leaves Try.prog fn t' R ds u w
  | [], .returning, w, hl => by obtain ⟨v, h1, h2⟩ := hl; exact ⟨v, by rw [← h]; exact h1, h2⟩
  | [], .panicking chain, w, hl => hl
  | [], .run, _, hl => hl
  | d :: ds, u, w, hl => by
    obtain ⟨h1, fv, cap, f, args, h2, h3, h4⟩ := hl
    refine ⟨h1, fv, cap, f, args, h2, h3, h4.mono ?_⟩
    intro e u' w' hq
    cases e with
    | returned v => exact leaves_tmps h ds _ _ hq
    | panicked chain => exact leaves_tmps h ds _ _ hq
    | outgrown => exact hq
/-- At a panic of Of nothing of its slots counts, but those of its two results. -/
theorem of_put {R : Ending → World → Prop} (d : Nat) (v : Value) (h2 : d ≠ 2) (h3 : d ≠ 3) (c : List PanicEntry) (a : Act) (w : World) (h : bodyPostD Try.prog Try.f34 R (.panic c) (a.put (some d) v) w) : bodyPostD Try.prog Try.f34 R (.panic c) a w := by
  refine leaves_tmps ?_ _ _ _ h
  have e2 : (a.tmps.setIfInBounds d v)[2]? = a.tmps[2]? := Array.getElem?_setIfInBounds_ne h2
  have e3 : (a.tmps.setIfInBounds d v)[3]? = a.tmps[3]? := Array.getElem?_setIfInBounds_ne h3
  simp [results, Try.results34, Act.put, e2, e3]
end Go.Proofs.Ytcbnmahbdcjamaa
