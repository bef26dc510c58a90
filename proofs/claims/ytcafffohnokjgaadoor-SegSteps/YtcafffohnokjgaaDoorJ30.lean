/- The walks of Boundaries, Next and Prev of the reference of seg. -/
import Derived.Test.YtcafffohnokjgaaDoorJ28
import Derived.Test.YtcafffohnokjgaaDoorJ29
import Derived.BigQuiet
namespace Go.Proofs.YtcafffohnokjgaaDoor
open Go.RowKit Go.Shelf Go.Maps
set_option linter.unusedVariables false
set_option linter.unusedSimpArgs false

def RbdP (m : Nat) (l : List Rl) (row : List Int) (n : Nat) (w : World) (e : Ending) (w' : World) : Prop := Below w.heap.size w w' ∧
 ((¬ Cls m row ∧ e = .returned (.tuple #[.slice none 0 0, .bool false])) ∨ (Cls m row ∧ ∃ a c, e = .returned (.tuple #[.slice a (n + 1) c, .bool true]) ∧ RdT w' a (n + 1) (boundL l row)))
set_option maxRecDepth 100000 in
set_option maxHeartbeats 8000000 in
theorem refBnd_any (D m N n : Nat) (l : List Rl) (row : List Int) (ca ra xa : Option Addr) (cc rc xc : Nat) (w : World) (hr : RowR w D ra N l) (hN : N ≤ 1000) (hm : m ≤ 1000) (hrd : Rd .i64 w xa n row) (hn : n ≤ 100) :
 Calls Tryd.prog 13 #[.agg #[.slice ca m cc, .slice ra N rc], .slice xa n xc] w (RbdP m l row n w) := by
 have HRR : Hid (RowR w D ra N l ∧ N ≤ 1000) := ⟨hr, hN⟩
 have HRD : Hid (Rd .i64 w xa n row) := hrd
 have HL : Hid (row.length = n) := hrd.1
 have hni : (n : Int) ≤ 100 := by omega
 have hmi : (m : Int) ≤ 1000 := by omega
 have hNi : (N : Int) ≤ 1000 := by omega
 obtain ⟨H, hH⟩ : ∃ H, H = w.heap.size := ⟨_, rfl⟩
 obtain ⟨W0, hW0⟩ : ∃ W0, W0 = w.alloc (.cells #[.slice ca m cc, .slice ra N rc] 25) := ⟨_, rfl⟩
 have HB0 : Hid (Below w.heap.size w W0) := by rw [hW0]; exact (Below.refl _ w).alloc (Nat.le_refl _) _
 have HX0 : Hid (W0.heap[H]? = some (.cells #[.slice ca m cc, .slice ra N rc] 25)) := by show _ = _; rw [hW0, hH]; exact heap_alloc_new w _
 clear hr hN hm hrd hn
 go_enter Tryd.func13, Tryd.ntmps13
 go_upto_region 1 with fail
 rw [← hH, ← hW0]
 clear hH hW0
 go_wp2_with fail
 go_loopw [6] (fun x6 wr => ∃ i : Nat, i ≤ n ∧ x6 = .int .i64 (i : Int) ∧ Cls m (row.take i) ∧ Below W0.heap.size W0 wr) (fun x6 _ => n - (intOf x6).toNat)
 case atStart => exact ⟨0, by omega, rfl, fun c hc => absurd hc (by simp), Below.refl _ _⟩
 case round =>
  obtain ⟨i, hin, hx, hcl, hwr⟩ := hrel
  subst hx
  have HCL : Hid (Cls m (row.take i)) := hcl
  have HBW : Hid (Below W0.heap.size W0 wr) := hwr
  have HB : Hid (Below w.heap.size w wr) := HB0.out.trans (hwr.mono HB0.out.size)
  clear hcl hwr
  obtain ⟨⟨e0, e1⟩, _⟩ := box2 ((HBW.out.block H (Array.getElem?_eq_some_iff.1 HX0.out).1).trans HX0.out)
  by_cases hi : i < n
  ·have hii : (i : Int) < (n : Int) := by omega
   have hi0 : (0 : Int) ≤ (i : Int) := by omega
   obtain ⟨b, off, rfl, hcc⟩ := (HRD.out.later HB.out).2 (by omega)
   have d3 := hcc i hi
   obtain ⟨X, hX⟩ : ∃ X, X = row.getD i 0 := ⟨_, rfl⟩
   rw [← hX] at d3
   have hil : i < row.length := by rw [HL.out]; exact hi
   have HXM : Hid (X ∈ row ∧ row.take (i + 1) = row.take i ++ [X]) := by
    have e : row[i] = X := by rw [hX, List.getD_eq_getElem?_getD, List.getElem?_eq_getElem hil]; rfl
    exact ⟨by rw [← e]; exact List.getElem_mem hil, by rw [take_snoc row i hil, e]⟩
   clear hX hcc hil
   by_cases hX0 : X < 0
   ·have g0 : decide (X < 0) = true := decide_eq_true hX0
    have HF : Hid (¬ Cls m row) := fun h => by have := (h X HXM.out.1).1; omega
    clear hX0
    go_wp2_with fail
    go_quiet (fail)
    clear d3 e0 e1
    go_wp2_with fail
    go_ret2
    exact ⟨bdN HB.out _, .inl ⟨HF.out, rfl⟩⟩
   have g0 : decide (X < 0) = false := decide_eq_false hX0
   by_cases hXm : (m : Int) ≤ X
   ·have g1 : decide ((m : Int) ≤ X) = true := decide_eq_true hXm
    have HF : Hid (¬ Cls m row) := fun h => by have := (h X HXM.out.1).2; omega
    clear hX0 hXm
    go_wp2_with fail
    go_quiet (fail)
    clear d3 e0 e1
    go_wp2_with fail
    go_ret2
    exact ⟨bdN HB.out _, .inl ⟨HF.out, rfl⟩⟩
   have g1 : decide ((m : Int) ≤ X) = false := decide_eq_false hXm
   have HC2 : Hid (Cls m (row.take (i + 1))) := fun c hc => by
    rw [HXM.out.2] at hc
    rcases List.mem_append.1 hc with hc | hc
    ·exact HCL.out c hc
    ·rw [List.mem_singleton.1 hc]; exact ⟨by omega, by omega⟩
   clear hX0 hXm
   go_wp2_with fail
   go_quiet (fail)
   clear d3 e0 e1
   go_wp2_with fail
   go_roundw
   case rel => exact ⟨i + 1, by omega, by go_num, HC2.out, bdN HBW.out _⟩
   case measure => simp [intOf]; omega
  ·have hii : ¬ (i : Int) < (n : Int) := by omega
   have HCR : Hid (Cls m row) := by
    have h := HCL.out
    rw [List.take_of_length_le (by rw [HL.out]; omega)] at h
    exact h
   have HCB : Hid (Calls Tryd.prog 26 #[.slice ra N rc, .slice xa n xc] wr (BoPost (boundL l row) (n + 1) wr)) := boundR_any D l row ra xa N rc n xc wr (HRR.out.1.later HB.out) HRR.out.2 (HRD.out.later HB.out) (by omega)
   go_wp2_with fail
   refine HCB.out.mono ?_
   rintro e w2 ⟨v, rfl, ho, hb⟩
   obtain ⟨a, c, rfl, _, _, hrt⟩ := rdT_own ho
   have HF : Hid (RdT w2 a (n + 1) (boundL l row) ∧ Below w.heap.size w w2) := ⟨hrt, HB.out.trans (hb.mono HB.out.size)⟩
   clear ho hb hrt e0 e1
   go_wp2_with fail
   go_ret2
   exact ⟨HF.out.2, .inr ⟨HCR.out, a, c, rfl, HF.out.1⟩⟩
set_option maxRecDepth 100000 in
set_option maxHeartbeats 8000000 in
theorem refNext_any (f : Nat → Bool) (n a c at0 : Nat) (la : Option Addr) (w : World) (hrd : RdT w la (n + 1) ((List.range (n + 1)).map f)) (hn : n ≤ 1000) (ha : at0 ≤ n) :
 Calls Tryd.prog 16 #[.slice la (n + 1) c, .int .i64 (at0 : Int)] w fun e w' => ∃ v : Nat, e = .returned (.int .i64 (v : Int)) ∧ NxV f n at0 v ∧ w' = w := by
 have HC : Hid (∀ i, i < n + 1 → ∃ b off, la = some ⟨b, off, none⟩ ∧ w.cell? ⟨b, off + i, none⟩ = some (.bool (f i))) := fun i hi => by
  obtain ⟨b, off, hla, hc⟩ := hrd.2 (by omega)
  refine ⟨b, off, hla, ?_⟩
  rw [hc i hi]
  simp [hi]
 have hni : (n : Int) ≤ 1000 := by omega
 have hai : (at0 : Int) ≤ (n : Int) := by omega
 clear hrd hn
 go_enter Tryd.func16, Tryd.ntmps16
 go_wp2_with fail
 go_loopw [5] (fun x5 wr => ∃ i : Nat, at0 < i ∧ i ≤ n + 1 ∧ x5 = .int .i64 (i : Int) ∧ (∀ j, at0 < j → j < i → f j = false) ∧ wr = w) (fun x5 _ => n + 1 - (intOf x5).toNat)
 case atStart => exact ⟨at0 + 1, by omega, by omega, by go_num, fun j h1 h2 => by omega, rfl⟩
 case round =>
  obtain ⟨i, hi0, hin, hx, hno, hwr⟩ := hrel
  subst hx
  obtain rfl : w = wr := hwr.symm
  have HNO : Hid (∀ j, at0 < j → j < i → f j = false) := hno
  clear hno
  by_cases hi : i < n + 1
  ·have hii : (i : Int) < (n : Int) + 1 := by omega
   have hi00 : (0 : Int) ≤ (i : Int) := by omega
   obtain ⟨b, off, rfl, d0⟩ := HC.out i hi
   obtain ⟨z, hz⟩ : ∃ z, z = f i := ⟨_, rfl⟩
   rw [← hz] at d0
   have HZ : Hid (z = f i) := hz
   clear hz
   cases z with
   | true =>
     go_wp2_with fail
     go_ret
     exact ⟨i, rfl, ⟨HNO.out, .inl ⟨hi0, by omega, HZ.out.symm⟩⟩, rfl⟩
   | false =>
     go_wp2_with fail
     go_roundw
     case rel =>
      refine ⟨i + 1, by omega, by omega, by go_num, fun j h1 h2 => ?_, trivial⟩
      rcases Nat.lt_or_ge j i with h | h
      ·exact HNO.out j h1 h
      ·rw [show j = i by omega]; exact HZ.out.symm
     case measure => simp [intOf]; omega
  ·have hii : ¬ (i : Int) < (n : Int) + 1 := by omega
   have hsub : (n : Int) + 1 - 1 = (n : Int) := by omega
   go_wp2_with fail
   go_ret
   exact ⟨n, rfl, ⟨fun j h1 h2 => HNO.out j h1 (by omega), .inr ⟨rfl, fun j h1 h2 => HNO.out j h1 (by omega)⟩⟩, rfl⟩
set_option maxRecDepth 100000 in
set_option maxHeartbeats 8000000 in
theorem refPrev_any (f : Nat → Bool) (n a c at0 : Nat) (la : Option Addr) (w : World) (hrd : RdT w la (n + 1) ((List.range (n + 1)).map f)) (hn : n ≤ 1000) (ha : at0 ≤ n) :
 Calls Tryd.prog 17 #[.slice la (n + 1) c, .int .i64 (at0 : Int)] w fun e w' => ∃ v : Nat, e = .returned (.int .i64 (v : Int)) ∧ PvV f at0 v ∧ w' = w := by
 have HC : Hid (∀ i, i < n + 1 → ∃ b off, la = some ⟨b, off, none⟩ ∧ w.cell? ⟨b, off + i, none⟩ = some (.bool (f i))) := fun i hi => by
  obtain ⟨b, off, hla, hc⟩ := hrd.2 (by omega)
  refine ⟨b, off, hla, ?_⟩
  rw [hc i hi]
  simp [hi]
 have hni : (n : Int) ≤ 1000 := by omega
 have hai : (at0 : Int) ≤ (n : Int) := by omega
 clear hrd hn
 go_enter Tryd.func17, Tryd.ntmps17
 go_wp2_with fail
 go_loopw [5] (fun x5 wr => ∃ i : Int, -1 ≤ i ∧ i < (at0 : Int) ∧ x5 = .int .i64 i ∧ (∀ j : Nat, i < (j : Int) → j < at0 → f j = false) ∧ wr = w) (fun x5 _ => (intOf x5 + 1).toNat)
 case atStart => exact ⟨(at0 : Int) - 1, by omega, by omega, by go_num, fun j h1 h2 => by omega, rfl⟩
 case round =>
  obtain ⟨i, hi0, hin, hx, hno, hwr⟩ := hrel
  subst hx
  obtain rfl : w = wr := hwr.symm
  have HNO : Hid (∀ j : Nat, i < (j : Int) → j < at0 → f j = false) := hno
  clear hno
  by_cases hi : 0 < i
  ·obtain ⟨k, rfl⟩ : ∃ k : Nat, i = (k : Int) := ⟨i.toNat, by omega⟩
   have hki : (k : Int) < (n : Int) + 1 := by omega
   have hk0 : (0 : Int) ≤ (k : Int) := by omega
   obtain ⟨b, off, rfl, d0⟩ := HC.out k (by omega)
   obtain ⟨z, hz⟩ : ∃ z, z = f k := ⟨_, rfl⟩
   rw [← hz] at d0
   have HZ : Hid (z = f k) := hz
   clear hz
   cases z with
   | true =>
     go_wp2_with fail
     go_ret
     exact ⟨k, rfl, ⟨fun j h1 h2 => HNO.out j (by omega) h2, .inl ⟨by omega, by omega, HZ.out.symm⟩⟩, rfl⟩
   | false =>
     go_wp2_with fail
     go_roundw
     case rel =>
      refine ⟨(k : Int) - 1, by omega, by omega, by go_num, fun j h1 h2 => ?_, trivial⟩
      rcases Nat.lt_or_ge k j with h | h
      ·exact HNO.out j (by omega) h2
      ·rw [show j = k by omega]; exact HZ.out.symm
     case measure => simp [intOf]
  ·have hii : ¬ (0 : Int) < i := by omega
   go_wp2_with fail
   go_ret
   exact ⟨0, rfl, ⟨fun j h1 h2 => HNO.out j (by omega) h2, .inr rfl⟩, rfl⟩
end Go.Proofs.YtcafffohnokjgaaDoor
