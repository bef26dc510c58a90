/- The program's step of one bit, and the array of the steps of all bytes. -/
import Derived.Test.YtcbnmahbdcjamaaBasC
import Derived.Test.YtcbnmahbdcjamaaCrcM
import Derived.Laws.BitsAll
import Derived.Deep.WholeRow
import Derived.Laws.CopyOwn
namespace Go.Proofs.Ytcbnmahbdcjamaa
open Go.RowKit
set_option linter.unusedVariables false

theorem and_one (r : Nat) (h : r < 4294967296) : bits .and .u32 (r : Int) 1 = (r : Int) % 2 := by
  have e := u32_and_nat r 1 h (by decide)
  rw [Nat.and_one_is_mod] at e
  simpa using e
theorem xor_turn (q : Nat) (h : q < 4294967296) : bits .xor .u32 (q : Int) 3988292384 = ((q ^^^ 3988292384 : Nat) : Int) := by
  have e := u32_xor_nat q 3988292384 h (by decide)
  simpa using e
set_option maxHeartbeats 1000000 in
theorem step_any (r : Nat) (w : World) (h : r < 4294967296) : Calls Try.prog 187 #[.int .u32 r] w fun e w' => e = .returned (.int .u32 (bit1 r)) ∧ w' = w := by
  have ha := and_one r h
  obtain ⟨q, hq⟩ : ∃ q : Nat, (r : Int) / 2 = (q : Int) := ⟨r / 2, by simp⟩
  have hx := xor_turn q (by omega)
  by_cases ho : (r : Int) % 2 = 1
  · have HB : Hid (bit1 r = q ^^^ 3988292384) := by
      show bit1 r = _
      unfold bit1
      rw [if_pos (by omega), show r / 2 = q by omega]
    obtain ⟨z, hz⟩ : ∃ z : Nat, z = q ^^^ 3988292384 := ⟨_, rfl⟩
    rw [← hz] at hx HB
    clear hz
    go_enter Try.func187, Try.ntmps187
    go_wp2
    go_ret
    exact ⟨by rw [HB.out]; rfl, rfl⟩
  · have HB : Hid (bit1 r = q) := by
      show bit1 r = _
      unfold bit1
      rw [if_neg (by omega), show r / 2 = q by omega]
    clear hx
    go_enter Try.func187, Try.ntmps187
    go_wp2
    go_ret
    exact ⟨by rw [HB.out]; rfl, rfl⟩
/-- The array of steps, so far. -/
def tb (k : Nat) : Array Value := ((List.range 256).map fun i => Value.int .u32 (if i < k then (bits1 8 i : Nat) else 0)).toArray
theorem tb_size (k : Nat) : (tb k).size = 256 := by simp [tb]
theorem tb_at (k i : Nat) (h : i < 256) : (tb k)[i]? = some (Value.int .u32 (if i < k then (bits1 8 i : Nat) else 0)) := by simp [tb, h]
theorem tb_none : tb 0 = Array.replicate 256 (Value.int .u32 0) := by
  apply Array.ext_getElem?
  intro i
  by_cases h : i < 256
  · rw [tb_at 0 i h]; simp [h]
  · rw [Array.getElem?_eq_none (by rw [tb_size]; omega), Array.getElem?_eq_none (by simp; omega)]
theorem tb_next (k : Nat) (h : k < 256) : (tb k).setIfInBounds k (Value.int .u32 (bits1 8 k : Nat)) = tb (k + 1) := by
  apply Array.ext_getElem?
  intro i
  by_cases hi : i < 256
  · rw [tb_at (k + 1) i hi, Array.getElem?_setIfInBounds]
    by_cases e : k = i
    · subst e; simp [tb_size, hi]
    · rw [if_neg e, tb_at k i hi]
      by_cases h1 : i < k
      · simp [h1, show i < k + 1 by omega]
      · simp [h1, show ¬ i < k + 1 by omega]
  · rw [Array.getElem?_eq_none (by simp [tb_size]; omega), Array.getElem?_eq_none (by rw [tb_size]; omega)]
theorem tb_one (k : Nat) : (tb k).all (·.oneCell') = true := by
  apply Array.all_eq_true_iff_forall_mem.2
  intro v hv
  simp [tb] at hv
  obtain ⟨i, _, rfl⟩ := hv
  rfl
theorem info_arr : (Try.prog.info? 203).map (fun i => (i.zero, i.size)) = some (some (.agg (Array.replicate 256 (Value.int .u32 0))), 256) := by kernel_rfl
theorem bits1_last (j r : Nat) : bits1 (j + 1) r = bit1 (bits1 j r) := bits1_add j 1 r

/-- A whole array out of its block, and into it. -/
theorem wp_load_row {P : Program} {op : Oper} {a : Act} {w : World} {K : Act → World → Prop} {Q : Exit → Act → World → Prop} (ty : TypeId) (x : Operand) (ho : op.op = .load ty x)
    (b : Nat) (hx : a.eval x = .pointer (some ⟨b, 0, none⟩)) (cs : Array Value) (t : TypeId) (n : Nat) (e : TypeId) (hg : w.heap[b]? = some (.cells cs t (0, 0)))
    (hu : P.underlying ty = some (.array n e)) (hi : (P.info? ty).map (·.size) = some cs.size)
    (h : K (a.put op.dst (.agg cs)) w) : op.wp P a w K Q := by
  unfold Oper.wp execOp
  simp only [ho, hx, Instr.loadAt, Instr.sureAddr, Sem.run_bind, Sem.run_pure, Result.andThen_ok, run_loadVar_row w b t ty cs (0, 0) _ hg hu rfl hi]
  exact h
theorem wp_store_row {P : Program} {op : Oper} {a : Act} {w : World} {K : Act → World → Prop} {Q : Exit → Act → World → Prop} (ty : TypeId) (x y : Operand) (ho : op.op = .store ty x y)
    (b : Nat) (cs old : Array Value) (t : TypeId) (hx : a.eval x = .pointer (some ⟨b, 0, none⟩)) (hy : a.eval y = .agg cs) (hg : w.heap[b]? = some (.cells old t (0, 0)))
    (hi : (P.info? ty).map (·.size) = some cs.size) (hs : old.size = cs.size) (h1 : cs.all (·.oneCell') = true)
    (h : K (a.put op.dst undef) (w.setRow b cs)) : op.wp P a w K Q := by
  unfold Oper.wp execOp
  simp only [ho, hx, hy, Instr.storeAt, Instr.sureAddr, Sem.run_bind, Sem.run_pure, Result.andThen_ok, run_storeVar_row w b t ty old cs hg hi hs h1]
  exact h
theorem run_storeCells_row {P : Program} (w : World) (g : Nat) (t : TypeId) (old cells : Array Value) (hg : w.heap[g]? = some (.cells old t (0, 0))) (ho : old.size = cells.size) (h1 : cells.all (·.oneCell') = true) :
    (storeCells ⟨g, 0, none⟩ cells.toList 0).run P w = .ok () (w.setRow g cells) := by
  have := run_storeCells_from (P := P) g t cells.toList 0 old w hg (by simp; omega) (fun v hv => (Array.all_eq_true_iff_forall_mem.1 h1) v (by simpa using hv))
  simpa using this
theorem heap_two (w : World) (o p : Obj) : ((w.alloc o).alloc p).heap[w.heap.size]? = some o ∧ ((w.alloc o).alloc p).heap[w.heap.size + 1]? = some p := by
  constructor
  · show ((w.heap.push o).push p)[w.heap.size]? = some o
    rw [Array.getElem?_push, if_neg (by simp)]; simp
  · show ((w.heap.push o).push p)[w.heap.size + 1]? = some p
    rw [Array.getElem?_push, if_pos (by simp)]

set_option maxRecDepth 100000 in
set_option maxHeartbeats 4000000 in
theorem allSteps_any (w : World) : Calls Try.prog 175 #[] w fun e w' => e = .returned (.agg (tb 256)) ∧ Below w.heap.size w w' := by
  obtain ⟨hzv, hzs⟩ := zero_of_info info_arr
  rw [← tb_none] at hzv
  have HZ : Hid ((Try.prog.info? 203).map (·.size) = some 256) := hzs
  clear hzs
  go_enter Try.func175, Try.ntmps175
  go_wp2
  clear hzv
  go_loopw [4] (fun x4 wr => ∃ k : Nat, k ≤ 256 ∧ x4 = .int .i64 k ∧ wr = (w.alloc (.cells (tb 0) 203)).alloc (.cells (tb k) 203)) (fun x4 _ => 256 - (intOf x4).toNat)
  case atStart => exact ⟨0, by omega, rfl, rfl⟩
  case round =>
    obtain ⟨k, hk, hx4, hwr⟩ := hrel
    subst hx4 hwr
    by_cases hlt : k < 256
    · have HC : Hid ((tb k)[k]? = some (.int .u32 0)) := by
        show (tb k)[k]? = _
        rw [tb_at k k hlt, if_neg (by omega)]
      have hd : decide ((k : Int) < 256) = true := decide_eq_true (by omega)
      go_wp2
      go_loop [3, 9] (fun x3 x9 => ∃ j : Nat, j ≤ 8 ∧ x3 = .int .u32 (bits1 j k : Nat) ∧ x9 = .int .i64 j) (fun _ x9 => 8 - (intOf x9).toNat)
      case atStart => exact ⟨0, by omega, rfl, rfl⟩
      case round =>
        obtain ⟨j, hj, hx3, hx9⟩ := hrel
        have HN := bits1_last j k
        have HL := bits1_lt j k (by omega)
        obtain ⟨r, hr⟩ : ∃ r, r = bits1 j k := ⟨_, rfl⟩
        rw [← hr] at HN HL hx3
        have HN' : Hid (bits1 (j + 1) k = bit1 r) := HN
        have HR : Hid (r = bits1 j k) := hr
        clear hr HN
        subst hx3 hx9
        by_cases hj8 : j < 8
        · go_wp2_with fail
          refine (step_any r _ HL).mono ?_
          rintro e w' ⟨rfl, hw'⟩
          subst hw'
          go_wp2
          go_round
          case rel => exact ⟨j + 1, by omega, by rw [HN'.out], by go_num⟩
          case measure => simp [intOf]; omega
        · obtain rfl : j = 8 := by omega
          have hcell := HC.out
          go_wp2
          go_roundw
          case rel => exact ⟨k + 1, by omega, by go_num, by rw [← tb_next k hlt, ← HR.out]⟩
          case measure => simp [intOf]; omega
    · obtain rfl : k = 256 := by omega
      obtain ⟨hh1, hh2⟩ := heap_two w (.cells (tb 0) 203) (.cells (tb 256) 203)
      have HH3 := setRow_heap _ _ _ (tb 256) _ _ hh1
      have HB := below_setRow (((Below.refl _ w).alloc (Nat.le_refl _) (.cells (tb 0) 203)).alloc (by simp) (.cells (tb 256) 203)) (Nat.le_refl _) (tb 256)
      have hst := run_storeCells_row (P := Try.prog) _ _ _ (tb 0) (tb 256) hh1 (by rw [tb_size, tb_size]) (tb_one 256)
      obtain ⟨W, hW⟩ : ∃ W, W = ((w.alloc (.cells (tb 0) 203)).alloc (.cells (tb 256) 203)).setRow w.heap.size (tb 256) := ⟨_, rfl⟩
      rw [← hW] at HB HH3 hst
      have HB' : Hid (Below w.heap.size w W) := HB
      have HH4 : Hid (W.heap[w.heap.size]? = some (.cells (tb 256) 203 (0, 0))) := HH3
      have HH2 : Hid _ := hh2
      clear hW HB HH3 hh1 hh2
      go_wp2
      refine wp_load_row 203 (.tmp 1) rfl (w.heap.size + 1) rfl (tb 256) 203 256 120 HH2.out Try.underlying203 (by rw [tb_size]; exact HZ.out) ?_
      go_wp2
      refine bodyPost_ret (v := .agg (tb 256)) ?_ rfl ⟨rfl, HB'.out⟩
      exact results_cell_row rfl _ W w.heap.size _ (tb 256) _ _ rfl HH4.out Try.underlying203 rfl (by rw [tb_size]; exact HZ.out)
end Go.Proofs.Ytcbnmahbdcjamaa
