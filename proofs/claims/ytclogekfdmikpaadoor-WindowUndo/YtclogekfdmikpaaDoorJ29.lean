/- In one text: TabE, SegA. -/
import Derived.Test.YtclogekfdmikpaaDoorJ28
import Derived.Test.YtclogekfdmikpaaDoorJ01
import Derived.Test.YtclogekfdmikpaaDoorJ25
import Derived.Test.YtclogekfdmikpaaDoorJ06
import Derived.Laws.CopyOwn
/- The walk of Decide. -/
namespace Go.Proofs.YtclogekfdmikpaaDoor
open Go.RowKit Go.Shelf
set_option linter.unusedVariables false
set_option linter.unusedSimpArgs false

def dcB (br x : Nat) : Nat → Nat → Bool
 | 0, _ => true
 | m + 1, i => if x.testBit i = true then br.testBit i else dcB br x m (i + 1)
theorem wrap_two (i : Nat) (h : i < 64) : IntKind.u64.wrap ((2 : Int) ^ i) = ((2 ^ i : Nat) : Int) := by
 have h1 : (2 : Nat) ^ i < 2 ^ 64 := Nat.pow_lt_pow_right (by decide) h
 have h2 : ((2 : Int) ^ i) = ((2 ^ i : Nat) : Int) := by simp
 rw [h2]
 generalize 2 ^ i = x at h1
 rw [IntKind.wrap_u64]
 omega
theorem and_pow (x i : Nat) : x &&& 2 ^ i = if x.testBit i = true then 2 ^ i else 0 := by
 refine Nat.eq_of_testBit_eq fun p => ?_
 rw [Nat.testBit_and, Nat.testBit_two_pow]
 by_cases h : i = p
 ·subst h; cases hb : x.testBit i <;> simp [Nat.testBit_two_pow]
 ·cases hb : x.testBit i <;> simp [Nat.testBit_two_pow, h]
theorem and_two (x i : Nat) (hx : x < 2 ^ 64) (h : i < 64) : (bits .and .u64 (x : Int) (IntKind.u64.wrap ((2 : Int) ^ i)) != 0) = x.testBit i := by
 have h1 : (2 : Nat) ^ i < 2 ^ 64 := Nat.pow_lt_pow_right (by decide) h
 have h2 : (0 : Nat) < 2 ^ i := Nat.two_pow_pos i
 rw [wrap_two i h, u64_and_nat _ _ hx h1, and_pow]
 cases x.testBit i with
 | false => rfl
 | true =>
   rw [if_pos rfl, bne_iff_ne]
   omega
set_option maxHeartbeats 4000000 in
theorem decide_any (w : World) (tb RN br a b : Nat) (p0 p1 : Value) (hh : w.heap[tb]? = some (.cells #[p0, p1, .int .u64 (br : Int), .int .i64 (RN : Int)] 66)) (hn : RN ≤ 40) (hbr : br < 2 ^ 64) (ha : a < 2 ^ 64) (hb : b < 2 ^ 64) :
 Calls Tryd.prog 35 #[.pointer (some ⟨tb, 0, none⟩), .int .u64 (a : Int), .int .u64 (b : Int)] w fun e w' => e = .returned (.bool (dcB br (a &&& b) RN 0)) ∧ w' = w := by
 have c2 : w.cell? ⟨tb, 2, none⟩ = some (.int .u64 (br : Int)) := cell_of_row w tb 2 _ _ _ hh
 have c3 : w.cell? ⟨tb, 3, none⟩ = some (.int .i64 (RN : Int)) := cell_of_row w tb 3 _ _ _ hh
 have hni : (RN : Int) ≤ 40 := by omega
 have hab : bits .and .u64 (a : Int) (b : Int) = ((a &&& b : Nat) : Int) := u64_and_nat _ _ ha hb
 obtain ⟨x, hx⟩ : ∃ x, x = a &&& b := ⟨_, rfl⟩
 have hx64 : x < 2 ^ 64 := by rw [hx]; exact Nat.lt_of_le_of_lt Nat.and_le_left ha
 have HX : Hid (bits .and .u64 (a : Int) (b : Int) = (x : Int) ∧ x < 2 ^ 64 ∧ br < 2 ^ 64) := ⟨by rw [hab, hx], hx64, hbr⟩
 have hmin : min (RN : Int) 64 = (RN : Int) := by omega
 rw [← hx]
 clear hab hx hx64 hbr ha hb hh
 go_enter Tryd.func35, Tryd.ntmps35
 go_wp2_with fail
 go_loopw [6, 16] (fun x6 x16 wr => ∃ i : Nat, i ≤ RN ∧ x16 = .int .i64 (i : Int) ∧ dcB br x RN 0 = dcB br x (RN - i) i ∧ wr = w) (fun _ x16 _ => RN - (intOf x16).toNat)
 case atStart => exact ⟨0, by omega, rfl, by simp, rfl⟩
 case round =>
  obtain ⟨i, hi, hx16, hd, hw⟩ := hrel
  subst hx16 hw
  have HD : Hid (dcB br x RN 0 = dcB br x (RN - i) i) := hd
  clear hd
  by_cases hlt : i < RN
  ·have hlti : (i : Int) < (RN : Int) := by omega
   have hi64 : (i : Int) < 64 := by omega
   have HE : Hid (dcB br x RN 0 = if x.testBit i = true then br.testBit i else dcB br x (RN - (i + 1)) (i + 1)) := by
    show _ = _
    rw [HD.out, show RN - i = (RN - (i + 1)) + 1 by omega, dcB]
   have HA : Hid ((bits .and .u64 (x : Int) (IntKind.u64.wrap ((2 : Int) ^ i)) != 0) = x.testBit i) := and_two x i HX.out.2.1 (by omega)
   have HB : Hid ((bits .and .u64 (br : Int) (IntKind.u64.wrap ((2 : Int) ^ i)) != 0) = br.testBit i) := and_two br i HX.out.2.2 (by omega)
   have hAB := HX.out.1
   cases hxb : x.testBit i with
   | true =>
     have hq : (bits .and .u64 (x : Int) (IntKind.u64.wrap ((2 : Int) ^ i)) != 0) = true := by rw [← hxb]; exact HA.out
     have HE2 : Hid (dcB br x RN 0 = (bits .and .u64 (br : Int) (IntKind.u64.wrap ((2 : Int) ^ i)) != 0)) := by show _ = _; rw [HE.out, if_pos hxb, HB.out]
     clear hxb HA
     go_wp2_with fail
     go_ret
     exact ⟨by rw [HE2.out]; rfl, rfl⟩
   | false =>
     have hq : (bits .and .u64 (x : Int) (IntKind.u64.wrap ((2 : Int) ^ i)) != 0) = false := by rw [← hxb]; exact HA.out
     have HE2 : Hid (dcB br x RN 0 = dcB br x (RN - (i + 1)) (i + 1)) := by show _ = _; rw [HE.out, if_neg (by rw [hxb]; decide)]
     clear hxb HA
     go_wp2_with fail
     go_roundw
     case rel => exact ⟨i + 1, by omega, by go_num, HE2.out, trivial⟩
     case measure => simp [intOf]; omega
  ·have hiR : RN = i := by omega
   subst hiR
   go_wp2_with fail
   go_ret
   exact ⟨by rw [HD.out, Nat.sub_self]; rfl, rfl⟩
end Go.Proofs.YtclogekfdmikpaaDoor

/- A row of numbers turned round: the library's Reverse, and turned. -/
namespace Go.Proofs.YtclogekfdmikpaaDoor
open Go.RowKit
set_option linter.unusedVariables false
set_option linter.unusedSimpArgs false

end Go.Proofs.YtclogekfdmikpaaDoor
