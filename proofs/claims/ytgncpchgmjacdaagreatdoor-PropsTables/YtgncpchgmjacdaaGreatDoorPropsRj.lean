/- The walk of Classes: the place of the class of each. -/
import Derived.Test.YtgncpchgmjacdaaGreatDoorPropsX
namespace Go.Proofs.YtgncpchgmjacdaaGreatDoor
open Go.RowKit
set_option linter.unusedVariables false

theorem info_I : (Tryz.prog.info? 3).map (fun i => (i.zero, i.size, i.bytes)) = some (some (.int .i64 0), 1, 8) := by kernel_rfl
theorem grown_of_below {w w' : World} (hb : Below w.heap.size w w') : w.grownBy w' none := by
  obtain ⟨p1, p2, p3, p4, p5⟩ := hb
  exact ⟨p1, p2, p3, p4, fun j hj _ => p5 j hj⟩
/-- The cells of numbers. -/
def flatI (xs : List Int) : List Value := xs.map (Value.int .i64)
theorem own_rdI {w : World} {B : Nat} {v : Value} {n : Nat} {xs : List Int} (h : w.ownsRow B 3 1 v n (flatI xs)) : ∃ a cap, v = .slice a n cap ∧ n ≤ cap ∧ cap ≤ 9223372036854775807 ∧ Rd .i64 w a n xs := by
  have hl : xs.length = n := by have := h.1; unfold flatI at this; simpa using this
  rcases h.2 with ⟨rfl, rfl⟩ | ⟨g, cap, cur, rfl, hb, hg, hn, hm, hs, ht⟩
  · exact ⟨none, 0, rfl, by omega, by omega, hl, fun hp => absurd hp (by omega)⟩
  · refine ⟨_, cap, rfl, hn, by simpa [maxLen] using hm, hl, fun hp => ⟨g, 0, rfl, fun i hi => ?_⟩⟩
    rw [Nat.zero_add, cell_of_row w g i _ _ _ hg]
    have h1 : (cur.toList.take (n * 1))[i]? = (flatI xs)[i]? := by rw [ht]
    rw [List.getElem?_take, if_pos (by omega)] at h1
    have h2 : (flatI xs)[i]? = some (.int .i64 (xs.getD i 0)) := by unfold flatI; simp [show i < xs.length by omega]
    rw [h2] at h1
    simpa using h1

set_option maxHeartbeats 4000000 in
theorem classes_any (t : Nat) (ss : List Sp) (cs : List Int) (a : Option Addr) (len cap : Nat) (w : World) (ha : AscS ss) (ht : TblAt w t ss) (hss : ss.length ≤ 4611686018427387903) (hrd : Rd .i32 w a len cs) (hm : len ≤ 100000000) :
    Calls Tryz.prog 26 #[.pointer (some ⟨t, 0, none⟩), .slice a len cap] w fun e w' => Below w.heap.size w w' ∧ ∃ v, e = .returned v ∧ w'.ownsRow w.heap.size 3 1 v len (flatI (cs.map (clsP ss))) := by
  have HD : Hid (Rd .i32 w a len cs) := hrd
  have HL : Hid (cs.length = len) := hrd.1
  have HM : Hid (len ≤ 100000000) := hm
  have HCL : Hid (∀ (W : World) (c : Int), Below w.heap.size w W → Calls Tryz.prog 24 #[.pointer (some ⟨t, 0, none⟩), .int .i32 c] W fun e w' => e = .returned (.int .i64 (clsP ss c)) ∧ Below W.heap.size W w') := fun W c hW => class_any t ss c W ha (ht.later hW) hss
  obtain ⟨i0, hi, hz0, hz1, hz2⟩ := info_parts info_I
  have HI : Hid (Tryz.prog.info? 3 = some i0 ∧ i0.zero = some (.int .i64 0) ∧ i0.size = 1 ∧ i0.bytes = 8) := ⟨hi, hz0, hz1, hz2⟩
  have hmi : (len : Int) ≤ 100000000 := by omega
  clear hrd hm ha ht hss hi hz0 hz1 hz2
  go_enter Tryz.func26, Tryz.ntmps26
  go_wp2_with (at_make; refine wpList_make_own _ rfl _ _ 48 rfl w.heap.size 3 i0 _ 1 Tryz.underlying48 HI.out.1 HI.out.2.1 HI.out.2.2.1 .i64 .i64 _ len rfl rfl rfl (by rw [HI.out.2.2.2]; have := HM.out; omega) (by have := HM.out; unfold maxLen; omega) (Nat.le_refl _) (fun w1 h1 h2 => ?_); have HO1 : Hid (w1.ownsRow w.heap.size 3 1 (.slice (some ⟨w.heap.size, 0, none⟩) 0 len) 0 []) := h1; have HB1 : Hid (Below w.heap.size w w1) := (Below.refl _ w).grown h2 (Nat.le_refl _) (fun k hk => by cases hk); clear h1 h2)
  go_loopw [5, 13] (fun x5 x13 wr => ∃ k : Nat, k ≤ len ∧ x13 = .int .i64 k ∧ wr.ownsRow w.heap.size 3 1 x5 k (flatI ((cs.map (clsP ss)).take k)) ∧ Below w.heap.size w wr) (fun _ x13 _ => len - (intOf x13).toNat)
  case atStart => exact ⟨0, by omega, rfl, by rw [List.take_zero]; exact HO1.out, HB1.out⟩
  case round =>
    obtain ⟨k, hk, hx13, hown, hbel⟩ := hrel
    subst hx13
    have HO : Hid (wr.ownsRow w.heap.size 3 1 u5 k (flatI ((cs.map (clsP ss)).take k))) := hown
    have HB : Hid (Below w.heap.size w wr) := hbel
    clear hown hbel
    by_cases hlt : k < len
    · obtain ⟨b, off, hab, hc⟩ := (HD.out.later HB.out).2 (by omega)
      subst hab
      have c0 := hc k hlt
      obtain ⟨x, hx⟩ : ∃ x, x = cs.getD k 0 := ⟨_, rfl⟩
      rw [← hx] at c0
      obtain ⟨iv, hiv⟩ : ∃ iv, iv = clsP ss x := ⟨_, rfl⟩
      have HC : Hid (Calls Tryz.prog 24 #[.pointer (some ⟨t, 0, none⟩), .int .i32 x] wr fun e w' => e = .returned (.int .i64 iv) ∧ Below wr.heap.size wr w') := by rw [hiv]; exact HCL.out wr x HB.out
      have HFL : Hid (flatI ((cs.map (clsP ss)).take k) ++ [.int .i64 iv] = flatI ((cs.map (clsP ss)).take (k + 1))) := by
        show _ = flatI ((cs.map (clsP ss)).take (k + 1))
        have hkl : k < (cs.map (clsP ss)).length := by simp; rw [HL.out]; exact hlt
        have hkc : k < cs.length := by rw [HL.out]; exact hlt
        rw [List.take_add_one, List.getElem?_eq_getElem hkl]
        unfold flatI
        rw [List.map_append]
        congr 1
        have e : (cs.map (clsP ss))[k] = iv := by rw [List.getElem_map, hiv, hx]; simp [hkc]
        rw [e]
        rfl
      clear hc hx hiv
      go_wp2_with fail
      refine HC.out.mono ?_
      rintro e w1 ⟨rfl, hb1⟩
      have hO1 := HO.out.kept (grown_of_below hb1) (Classical.em _)
      have hbw : Below w.heap.size w w1 := HB.out.trans (hb1.mono HB.out.size)
      have HBW : Hid (Below w.heap.size w w1) := hbw
      have HOA : Hid ((w1.alloc (.cells #[.int .i64 iv] 3)).ownsRow w.heap.size 3 1 u5 k (flatI ((cs.map (clsP ss)).take k))) := hO1.kept (row := none) ⟨rfl, rfl, rfl, by simp, fun j hj _ => by rw [Below.heap_alloc _ _ _ hj]⟩ (Classical.em _)
      have HNEW : Hid (∀ j u, [Value.int .i64 iv][j]? = some u → (w1.alloc (.cells #[.int .i64 iv] 3)).cell? ((⟨w1.heap.size, 0, none⟩ : Addr).add j) = some u) := by
        intro j u hu
        rw [add_lit, Nat.zero_add, cell_of_row _ w1.heap.size j _ _ _ (heap_alloc_new w1 _)]
        simpa using hu
      have HLT : Hid (∀ j, u5.ownBlock = some j → w.heap.size ≤ j ∧ j < w1.heap.size) := hO1.lt
      have HFIN : Hid (∀ v' w', w'.ownsRow w.heap.size 3 1 v' (k + 1) (flatI ((cs.map (clsP ss)).take k) ++ [.int .i64 iv]) → (w1.alloc (.cells #[.int .i64 iv] 3)).grownBy w' u5.ownBlock → w'.ownsRow w.heap.size 3 1 v' (k + 1) (flatI ((cs.map (clsP ss)).take (k + 1))) ∧ Below w.heap.size w w') := by
        intro v' w' h1 h2
        rw [HFL.out] at h1
        exact ⟨h1, (HBW.out.alloc HBW.out.size _).grown h2 (by simp; have := HBW.out.size; omega) (fun j hj => (HLT.out j hj).1)⟩
      clear hO1 hbw hb1
      go_wp2_with (at_builtin; refine wpList_append_own _ rfl _ _ 48 rfl w.heap.size 3 i0 _ 1 8 Tryz.underlying48 HI.out.1 HI.out.2.1 HI.out.2.2.1 HI.out.2.2.2 rfl (by decide) _ k (flatI ((cs.map (clsP ss)).take k)) rfl HOA.out ⟨w1.heap.size, 0, none⟩ 1 1 [.int .i64 iv] rfl rfl HNEW.out (by intro u hu; rw [List.mem_singleton.1 hu]; rfl) (by have := HM.out; unfold maxLen; omega) (by have := HM.out; omega) (by simp; have := HBW.out.size; omega) (fun v' w' h1 h2 _ => ?_); have HF := HFIN.out v' w' h1 h2; have HFF : Hid _ := HF; clear HF h1 h2)
      go_roundw
      case rel => exact ⟨k + 1, by omega, by go_num, HFF.out.1, HFF.out.2⟩
      case measure => simp [intOf]; omega
    · obtain rfl : len = k := by omega
      have HT : Hid ((cs.map (clsP ss)).take len = cs.map (clsP ss)) := List.take_of_length_le (by simp; rw [HL.out]; exact Nat.le_refl _)
      rw [HT.out] at HO
      go_wp2
      go_ret
      exact ⟨HB.out, _, rfl, HO.out⟩
end Go.Proofs.YtgncpchgmjacdaaGreatDoor
