/- In one text: WinL, WinN. -/
import Derived.Test.YtclogekfdmikpaaDoorJ24
import Derived.Test.YtclogekfdmikpaaDoorJ29
import Derived.Test.YtclogekfdmikpaaDoorJ31
import Derived.Laws.EntriesVeiled
/- A window in memory; the walks of what only reads it: has, Len, Touched, and Splice's closures. -/
namespace Go.Proofs.YtclogekfdmikpaaDoor
open Go.RowKit
set_option linter.unusedVariables false
set_option linter.unusedSimpArgs false

abbrev WCells (tb : Nat) (tv av bv : Value) (tc : Int) : Array Value := #[.pointer (some ⟨tb, 0, none⟩), tv, av, bv, .int .i64 tc]
theorem win_cells {W : World} {P tb : Nat} {tv av bv : Value} {tc : Int} (h : W.heap[P]? = some (.cells (WCells tb tv av bv tc) 72)) : W.cell? ⟨P, 0, none⟩ = some (.pointer (some ⟨tb, 0, none⟩)) ∧ W.cell? ⟨P, 1, none⟩ = some tv ∧ W.cell? ⟨P, 2, none⟩ = some av ∧ W.cell? ⟨P, 3, none⟩ = some bv ∧ W.cell? ⟨P, 4, none⟩ = some (.int .i64 tc) ∧ ∀ o, W.frozen? ⟨P, o, none⟩ = false :=
 ⟨cell_of_row W P 0 _ _ _ h, cell_of_row W P 1 _ _ _ h, cell_of_row W P 2 _ _ _ h, cell_of_row W P 3 _ _ _ h, cell_of_row W P 4 _ _ _ h, fun o => Lib.frozen_of_heap h o⟩
theorem own_rdI {w : World} {B n : Nat} {v : Value} {xs : List Int} (h : w.ownsRow B 3 1 v n (jv xs)) : ∃ a cap, v = .slice a n cap ∧ n ≤ cap ∧ cap ≤ 9223372036854775807 ∧ Rd .i64 w a n xs ∧ (a = none → cap = 0) := rd_own2 (k := .i64) h
theorem len_any (W : World) (P tb n cap : Nat) (a : Option Addr) (av bv : Value) (tc : Int) (h : W.heap[P]? = some (.cells (WCells tb (.slice a n cap) av bv tc) 72)) :
 Calls Tryd.prog 20 #[.pointer (some ⟨P, 0, none⟩)] W fun e w' => e = .returned (.int .i64 (n : Int)) ∧ w' = W := by
 obtain ⟨k0, k1, k2, k3, k4, _⟩ := win_cells h
 clear h
 go_enter Tryd.func20, Tryd.ntmps20
 go_wp2
 go_ret
 exact ⟨rfl, rfl⟩
theorem touched_any (W : World) (P tb : Nat) (tv av bv : Value) (tc : Int) (h : W.heap[P]? = some (.cells (WCells tb tv av bv tc) 72)) :
 Calls Tryd.prog 18 #[.pointer (some ⟨P, 0, none⟩)] W fun e w' => e = .returned (.int .i64 tc) ∧ w' = W := by
 obtain ⟨k0, k1, k2, k3, k4, _⟩ := win_cells h
 clear h
 go_enter Tryd.func18, Tryd.ntmps18
 go_wp2
 go_ret
 exact ⟨rfl, rfl⟩
def hasB (n : Nat) (p : Int) : Bool := decide (0 ≤ p) && decide (p ≤ (n : Int))
theorem has_any (W : World) (P tb n cap : Nat) (a : Option Addr) (av bv : Value) (tc p : Int) (h : W.heap[P]? = some (.cells (WCells tb (.slice a n cap) av bv tc) 72)) :
 Calls Tryd.prog 26 #[.pointer (some ⟨P, 0, none⟩), .int .i64 p] W fun e w' => e = .returned (.bool (hasB n p)) ∧ w' = W := by
 obtain ⟨k0, k1, k2, k3, k4, _⟩ := win_cells h
 have hR : hasB n p = (decide (0 ≤ p) && decide (p ≤ (n : Int))) := rfl
 generalize hasB n p = R at hR ⊢
 clear h
 by_cases h1 : 0 ≤ p
 ·by_cases h2 : p ≤ (n : Int)
  all_goals
   simp only [h1, h2, decide_true, decide_false, Bool.and_self, Bool.and_false] at hR
   subst hR
   go_enter Tryd.func26, Tryd.ntmps26
   go_wp2
   go_ret
   exact ⟨rfl, rfl⟩
 ·simp only [h1, decide_false, Bool.false_and] at hR
  subst hR
  go_enter Tryd.func26, Tryd.ntmps26
  go_wp2
  go_ret
  exact ⟨rfl, rfl⟩
theorem clos1_any (W : World) (N P tb n cap k : Nat) (a : Option Addr) (av bv : Value) (tc : Int) (xs : List Int) (hN : W.heap[N]? = some (.cells #[.pointer (some ⟨P, 0, none⟩)] 34)) (h : W.heap[P]? = some (.cells (WCells tb (.slice a n cap) av bv tc) 72)) (hr : Rd .i64 W a n xs) (hk : k < n) :
 Calls Tryd.prog 31 #[.int .i64 (k : Int), .pointer (some ⟨N, 0, none⟩)] W fun e w' => e = .returned (.int .i64 (xs.getD k 0)) ∧ ∃ q, w' = W.drewN q := by
 obtain ⟨k0, k1, k2, k3, k4, _⟩ := win_cells h
 have n0 : W.cell? ⟨N, 0, none⟩ = some (.pointer (some ⟨P, 0, none⟩)) := cell_of_row W N 0 _ _ _ hN
 obtain ⟨b, off, rfl, hc⟩ := hr.2 (by omega)
 have c0 := hc k hk
 clear h hN hr hc
 generalize xs.getD k 0 = x at c0 ⊢
 go_enter Tryd.func31, Tryd.ntmps31
 go_wp2
 go_ret
 exact ⟨rfl, 0, rfl⟩
theorem clos2_any (W : World) (N M P tb n cap k : Nat) (a : Option Addr) (av bv : Value) (tc : Int) (xs : List Int) (hN : W.heap[N]? = some (.cells #[.pointer (some ⟨P, 0, none⟩)] 34)) (hM : W.heap[M]? = some (.cells #[.int .i64 ((n : Int) - 1)] 3)) (h : W.heap[P]? = some (.cells (WCells tb (.slice a n cap) av bv tc) 72)) (hr : Rd .i64 W a n xs) (hk : k < n) (hn : n ≤ 1000000) :
 Calls Tryd.prog 32 #[.int .i64 (k : Int), .pointer (some ⟨N, 0, none⟩), .pointer (some ⟨M, 0, none⟩)] W fun e w' => e = .returned (.int .i64 (xs.reverse.getD k 0)) ∧ ∃ q, w' = W.drewN q := by
 obtain ⟨k0, k1, k2, k3, k4, _⟩ := win_cells h
 have n0 : W.cell? ⟨N, 0, none⟩ = some (.pointer (some ⟨P, 0, none⟩)) := cell_of_row W N 0 _ _ _ hN
 have m0 : W.cell? ⟨M, 0, none⟩ = some (.int .i64 ((n : Int) - 1)) := cell_of_row W M 0 _ _ _ hM
 obtain ⟨b, off, rfl, hc⟩ := hr.2 (by omega)
 obtain ⟨j, hj⟩ : ∃ j, j = n - 1 - k := ⟨_, rfl⟩
 have c0 := hc j (by omega)
 have hjn : j < n := by omega
 have hrev : xs.reverse.getD k 0 = xs.getD j 0 := by
  have hl := hr.1
  rw [List.getD_eq_getElem?_getD, List.getD_eq_getElem?_getD, List.getElem?_reverse (by omega), hj, hl]
 rw [hrev]
 have hjj : (n : Int) - 1 - (k : Int) = (j : Int) := by omega
 have mixed : Tryd.prog.follows .mixedOrders = true := by kernel_rfl
 clear h hN hM hr hc hrev hj
 generalize xs.getD j 0 = x at c0 ⊢
 obtain ⟨L, hL⟩ : ∃ L, L = (n : Int) - 1 := ⟨_, rfl⟩
 rw [← hL] at m0 hjj
 have hw : IntKind.i64.wrap (L - (k : Int)) = (j : Int) := by rw [hjj, IntKind.wrap_i64]; omega
 clear hL
 go_enter Tryd.func32, Tryd.ntmps32
 go_upto_region 1 with fail
 go_quiet (fail)
 go_wp2
 go_ret
 exact ⟨rfl, _, rfl⟩
end Go.Proofs.YtclogekfdmikpaaDoor

/- The walks of foreign, and of the library's search that it asks. -/
namespace Go.Proofs.YtclogekfdmikpaaDoor
open Go.RowKit
set_option linter.unusedVariables false
set_option linter.unusedSimpArgs false

def frC (K : Nat) (c : Int) : Bool := decide (c < 0) || decide ((K : Int) ≤ c)
theorem foreign1_any (K B : Nat) (c : Int) (W : World) (h : W.cell? ⟨B, 0, none⟩ = some (.int .i64 (K : Int))) :
 Calls Tryd.prog 47 #[.int .i64 c, .pointer (some ⟨B, 0, none⟩)] W fun e w' => e = .returned (.bool (frC K c)) ∧ w' = W := by
 have hR : frC K c = (decide (c < 0) || decide ((K : Int) ≤ c)) := rfl
 generalize frC K c = R at hR ⊢
 by_cases h1 : c < 0
 ·simp only [h1, decide_true, Bool.true_or] at hR
  subst hR
  go_enter Tryd.func47, Tryd.ntmps47
  go_wp2
  go_ret
  exact ⟨rfl, rfl⟩
 ·by_cases h2 : (K : Int) ≤ c
  all_goals
   simp only [h1, h2, decide_true, decide_false, Bool.false_or] at hR
   subst hR
   go_enter Tryd.func47, Tryd.ntmps47
   go_wp2
   go_ret
   exact ⟨rfl, rfl⟩
theorem indexI_any (K B n cap : Nat) (row : List Int) (a : Option Addr) (W : World) (h : W.cell? ⟨B, 0, none⟩ = some (.int .i64 (K : Int))) (hr : Rd .i64 W a n row) (hn : n ≤ 1000000) :
 Calls Tryd.prog 73 #[.slice a n cap, .func (.func 47) #[] #[.pointer (some ⟨B, 0, none⟩)]] W fun e w' => ∃ i : Int, e = .returned (.int .i64 i) ∧ decide (0 ≤ i) = row.any (frC K) ∧ w' = W := by
 have HL : Hid (row.length = n) := hr.1
 have HD : Hid (Rd .i64 W a n row) := hr
 have HF : Hid (∀ c, Calls Tryd.prog 47 #[.int .i64 c, .pointer (some ⟨B, 0, none⟩)] W fun e w' => e = .returned (.bool (frC K c)) ∧ w' = W) := fun c => foreign1_any K B c W h
 clear hr h
 go_enter Tryd.func73, Tryd.ntmps73
 go_wp2
 go_loopw [8] (fun x8 wr => ∃ i : Nat, x8 = .int .i64 i ∧ i ≤ n ∧ (∀ k, k < i → frC K (row.getD k 0) = false) ∧ wr = W) (fun x8 _ => n - (intOf x8).toNat)
 case atStart => exact ⟨0, rfl, by omega, fun k hk => absurd hk (by omega), rfl⟩
 case round =>
  obtain ⟨i, hx8, hil, hno, hwr⟩ := hrel
  subst hx8
  obtain rfl := hwr.symm
  clear hwr
  have HNO : Hid (∀ k, k < i → frC K (row.getD k 0) = false) := hno
  clear hno
  by_cases hlt : i < n
  ·obtain ⟨b, off, hab, hc⟩ := HD.out.2 (by omega)
   subst hab
   have c0 := hc i hlt
   have HC : Hid (Calls Tryd.prog 47 #[.int .i64 (row.getD i 0), .pointer (some ⟨B, 0, none⟩)] W fun e w' => e = .returned (.bool (frC K (row.getD i 0))) ∧ w' = W) := HF.out _
   clear hc
   generalize hy : row.getD i 0 = y at c0 HC
   cases hfi : frC K y
   ·rw [hfi] at HC
    have HNX : Hid (∀ k, k < i + 1 → frC K (row.getD k 0) = false) := fun k hk => by
     rcases Nat.lt_or_ge k i with h | h
     ·exact HNO.out k h
     ·rw [show k = i by omega, hy]; exact hfi
    clear hfi hy
    go_wp2_with (first | (go_at_call 47; refine HC.out.mono ?_; rintro e w' ⟨rfl, hw'⟩; obtain rfl := hw'.symm; clear hw'))
    go_roundw
    case rel => exact ⟨i + 1, by go_num, by omega, HNX.out, by first | rfl | trivial⟩
    case measure => simp [intOf]; omega
   ·rw [hfi] at HC
    have HAN : Hid (true = row.any (frC K)) := by
     show true = _
     exact (List.any_eq_true.2 ⟨row.getD i 0, by have := HL.out; simp [show i < row.length by omega], by rw [hy]; exact hfi⟩).symm
    clear hfi hy
    go_wp2_with (first | (go_at_call 47; refine HC.out.mono ?_; rintro e w' ⟨rfl, hw'⟩; obtain rfl := hw'.symm; clear hw'))
    go_ret
    exact ⟨i, rfl, by rw [← HAN.out]; exact decide_eq_true (by omega), rfl⟩
  ·obtain rfl : i = n := by omega
   have HAN : Hid (false = row.any (frC K)) := by
    show false = _
    symm
    rw [List.any_eq_false]
    intro x hx
    obtain ⟨k, hk, rfl⟩ := List.mem_iff_getElem.1 hx
    have := HNO.out k (by have := HL.out; omega)
    simpa [hk] using this
   go_wp2
   go_ret
   exact ⟨-1, rfl, by rw [← HAN.out]; rfl, rfl⟩
theorem containsI_any (K B n cap : Nat) (row : List Int) (a : Option Addr) (W : World) (h : W.cell? ⟨B, 0, none⟩ = some (.int .i64 (K : Int))) (hr : Rd .i64 W a n row) (hn : n ≤ 1000000) :
 Calls Tryd.prog 46 #[.slice a n cap, .func (.func 47) #[] #[.pointer (some ⟨B, 0, none⟩)]] W fun e w' => e = .returned (.bool (row.any (frC K))) ∧ w' = W := by
 have HC : Hid (Calls Tryd.prog 73 #[.slice a n cap, .func (.func 47) #[] #[.pointer (some ⟨B, 0, none⟩)]] W fun e w' => ∃ i : Int, e = .returned (.int .i64 i) ∧ decide (0 ≤ i) = row.any (frC K) ∧ w' = W) := indexI_any K B n cap row a W h hr hn
 clear h hr
 generalize row.any (frC K) = R at HC ⊢
 go_enter Tryd.func46, Tryd.ntmps46
 go_wp2_with (first | (go_at_call 73; refine HC.out.mono ?_; rintro e w2 ⟨i, rfl, hi, hw2⟩; obtain rfl := hw2.symm; clear hw2))
 go_ret
 exact ⟨rfl, rfl⟩
set_option maxHeartbeats 2000000 in
theorem foreign_any (K tb n cap : Nat) (l : List Rl) (row : List Int) (a : Option Addr) (w : World) (hta : TabAt w K l tb) (hr : Rd .i64 w a n row) (hn : n ≤ 1000000) :
 Calls Tryd.prog 27 #[.pointer (some ⟨tb, 0, none⟩), .slice a n cap] w fun e w' => e = .returned (.bool (row.any (frC K))) ∧ Below w.heap.size w w' := by
 obtain ⟨la, lb, nxA, ouA, nxB, ouB, htb, hA, _, _, hB, _, _⟩ := hta
 obtain ⟨na, nc, oa, oc, hma, _⟩ := hA
 obtain ⟨nb, ncb, ob, ocb, hmb, _⟩ := hB
 obtain ⟨N, hN⟩ : ∃ N, N = w.heap.size := ⟨_, rfl⟩
 obtain ⟨W0, hW0⟩ : ∃ W0, W0 = w.alloc (.cells #[.int .i64 0] 3) := ⟨_, rfl⟩
 have hb0 : Below w.heap.size w W0 := by rw [hW0]; exact (Below.refl _ w).alloc (Nat.le_refl _) _
 have hup : ∀ (b : Nat) (cs : Array Value) (t : TypeId), w.heap[b]? = some (.cells cs t) → W0.heap[b]? = some (.cells cs t) := fun b cs t h => (hb0.block b (Array.getElem?_eq_some_iff.1 h).1).trans h
 have t0 : W0.cell? ⟨tb, 0, none⟩ = some (.pointer (some ⟨la, 0, none⟩)) := cell_of_row W0 tb 0 _ _ _ (hup _ _ _ htb)
 have t1 : W0.cell? ⟨tb, 1, none⟩ = some (.pointer (some ⟨lb, 0, none⟩)) := cell_of_row W0 tb 1 _ _ _ (hup _ _ _ htb)
 have a0 : W0.cell? ⟨la, 0, none⟩ = some (.int .i64 (K : Int)) := cell_of_row W0 la 0 _ _ _ (hup _ _ _ hma)
 have b0 : W0.cell? ⟨lb, 0, none⟩ = some (.int .i64 (K : Int)) := cell_of_row W0 lb 0 _ _ _ (hup _ _ _ hmb)
 have hNb : W0.heap[N]? = some (.cells #[.int .i64 0] 3) := by rw [hN, hW0]; exact heap_alloc_new w _
 have n0 : W0.cell? ⟨N, 0, none⟩ = some (.int .i64 0) := cell_of_row W0 N 0 _ _ _ hNb
 have nf : W0.frozen? ⟨N, 0, none⟩ = false := Lib.frozen_of_heap hNb 0
 have hmn : ∀ V : World, (Builtin.min_ #[3, 3] 3 #[.int .i64 (K : Int), .int .i64 (K : Int)]).run Tryd.prog V = .ok (.int .i64 (K : Int)) V := min_run K K K (by omega)
 have hmf : ∀ (fn : Fn) (first cp : Array Value) (w : World), (Instr.makeFunc fn first cp).run Tryd.prog w = .ok (.func fn first cp) w := fun _ _ _ _ => rfl
 have HFIN : Hid (∀ q, Calls Tryd.prog 46 #[.slice a n cap, .func (.func 47) #[] #[.pointer (some ⟨N, 0, none⟩)]] ((W0.setCell ⟨N, 0, none⟩ (.int .i64 (K : Int))).drewN q) fun e w' => e = .returned (.bool (row.any (frC K))) ∧ Below w.heap.size w w') := fun q => by
  have hb1 : Below w.heap.size w ((W0.setCell ⟨N, 0, none⟩ (.int .i64 (K : Int))).drewN q) := by
   have := hb0.setCell (p := ⟨N, 0, none⟩) (by show w.heap.size ≤ N; omega) (.int .i64 (K : Int))
   exact ⟨this.os, this.tape, this.output, this.size, this.block⟩
  refine (containsI_any K N n cap row a _ ?_ (hr.later hb1) hn).mono fun e w' h => ⟨h.1, by rw [h.2]; exact hb1⟩
  have hx := heap_setCellX W0 N 0 (.int .i64 (K : Int)) _ _ _ hNb
  exact cell_of_row (W0.setCell ⟨N, 0, none⟩ (.int .i64 (K : Int))) N 0 _ _ _ hx
 generalize row.any (frC K) = R at HFIN ⊢
 clear hr hma hmb htb hup hNb hb0
 go_enter Tryd.func27, Tryd.ntmps27
 go_upto_region 2 with fail
 rw [← hN, ← hW0]
 clear hN hW0
 go_upto_region 3 with fail
 go_region
 have HF1 := HFIN.out 1
 go_wp2_with (first | (go_at_call 46; refine HF1.mono ?_; rintro e w2 ⟨rfl, hw2⟩))
 go_ret
 exact ⟨rfl, hw2⟩
end Go.Proofs.YtclogekfdmikpaaDoor
