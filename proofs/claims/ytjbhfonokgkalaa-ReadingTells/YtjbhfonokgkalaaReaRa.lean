/- The walks of in, all, either and Same of the reference of reading. -/
import Derived.Test.YtjbhfonokgkalaaReaEn
import Derived.Test.YtjbhfonokgkalaaReaMv
import Derived.Test.YtjbhfonokgkalaaBasT
namespace Go.Proofs.Ytjbhfonokgkalaa
open Go.RowKit
set_option linter.unusedVariables false
set_option linter.unusedSimpArgs false

set_option maxHeartbeats 1000000 in
theorem inI_any (xs : List Int) (c : Int) (a : Option Addr) (len cap : Nat) (w : World) (hrd : Rd .i64 w a len xs) (hm : len ≤ 9223372036854775806) :
    Calls Try.prog 76 #[.slice a len cap, .int .i64 c] w fun e w' => e = .returned (.bool (decide (c ∈ xs))) ∧ w' = w := by
  have HD : Hid (Rd .i64 w a len xs) := hrd
  have HL : Hid (xs.length = len) := hrd.1
  obtain ⟨R, hR⟩ : ∃ R, R = decide (c ∈ xs) := ⟨_, rfl⟩
  rw [← hR]
  have HR : Hid (R = decide (c ∈ xs)) := hR
  clear hrd hR
  go_enter Try.func76, Try.ntmps76
  go_wp2
  go_loop [5] (fun x8 => ∃ k : Nat, k ≤ len ∧ x8 = .int .i64 k ∧ ∀ j (hj : j < xs.length), j < k → (xs[j] == c) = false) (fun x8 => len - (intOf x8).toNat)
  case atStart => exact ⟨0, by omega, rfl, fun j _ hj => absurd hj (by omega)⟩
  case round =>
    obtain ⟨k, hk, hx8, hat⟩ := hrel
    subst hx8
    have HA : Hid (∀ j (hj : j < xs.length), j < k → (xs[j] == c) = false) := hat
    clear hat
    by_cases hlt : k < len
    · obtain ⟨b, off, rfl, hcl⟩ := HD.out.2 (by omega)
      have hcc := hcl k hlt
      have hkl : k < xs.length := by rw [HL.out]; exact hlt
      obtain ⟨x, hx⟩ : ∃ x, x = xs.getD k 0 := ⟨_, rfl⟩
      have HX : Hid (x = xs[k]) := by show x = xs[k]; rw [hx]; simp [hkl]
      rw [← hx] at hcc
      clear hcl hx
      by_cases he : (x == c) = true
      · have hR : R = true := by
          rw [HR.out, decide_eq_true_eq, ← beq_iff_eq.1 he, HX.out]
          exact List.getElem_mem hkl
        subst hR
        go_wp2
        go_ret
        exact ⟨rfl, rfl⟩
      · rw [Bool.not_eq_true] at he
        have HE : Hid ((x == c) = false) := he
        go_wp2
        go_round
        case rel =>
          refine ⟨k + 1, by omega, by go_num, fun j hj hj2 => ?_⟩
          rcases Nat.lt_or_ge j k with h | h
          · exact HA.out j hj h
          · obtain rfl : j = k := by omega
            rw [← HX.out]; exact HE.out
        case measure => simp [intOf]; omega
    · have hR : R = false := by
        rw [HR.out, decide_eq_false_iff_not]
        intro hm
        obtain ⟨j, hj, e⟩ := List.mem_iff_getElem.1 hm
        have := HA.out j hj (by rw [HL.out] at hj; omega)
        rw [e] at this
        simp at this
      subst hR
      go_wp2
      go_ret
      exact ⟨rfl, rfl⟩
/-- What leaves a row of truths of its own. -/
def BoPost (bs : List Bool) (m : Nat) (w : World) (e : Ending) (w' : World) : Prop := ∃ v, e = .returned v ∧ w'.ownsRow w.heap.size 4 1 v m (bs.map Value.bool) ∧ Below w.heap.size w w'
theorem info_bo : (Try.prog.info? 4).map (fun i => (i.zero, i.size, i.bytes)) = some (some (.bool false), 1, 1) := by kernel_rfl
theorem snoc_own {w w5 w6 : World} {B : Nat} {v : Value} {n : Nat} {bs : List Bool} {b : Bool} (h : w5.ownsRow B 4 1 v n (bs.map Value.bool)) (hb : Below B w w5) (g cp : Nat) (q1 : w6.ownsRow B 4 1 (.slice (some ⟨g, 0, none⟩) (n + 1) cp) (n + 1) (bs.map Value.bool ++ [.bool b])) (q2 : (w5.alloc (.cells #[.bool b] 4)).grownBy w6 v.ownBlock) (hB : w.heap.size = B) : w6.ownsRow B 4 1 (.slice (some ⟨g, 0, none⟩) (n + 1) cp) (n + 1) ((bs ++ [b]).map Value.bool) ∧ Below B w w6 := by
  subst hB
  refine ⟨by rw [List.map_append]; exact q1, ?_⟩
  have hb1 : Below w.heap.size w (w5.alloc (.cells #[.bool b] 4)) := hb.alloc hb.size _
  exact hb1.grown q2 hb1.size (fun y hy => (h.lt y hy).1)
set_option maxHeartbeats 4000000 in
theorem all_any (n : Nat) (b : Bool) (w : World) (hn : n ≤ 1000) : Calls Try.prog 40 #[.int .i64 (n : Int), .bool b] w (BoPost (List.replicate (n + 1) b) (n + 1) w) := by
  obtain ⟨j0, ji, jz0, jz1, jz2⟩ := info_parts info_bo
  have HJ : Hid (Try.prog.info? 4 = some j0 ∧ j0.zero = some (.bool false) ∧ j0.size = 1 ∧ j0.bytes = 1) := ⟨ji, jz0, jz1, jz2⟩
  have hni : (n : Int) ≤ 1000 := by omega
  clear ji jz0 jz1 jz2
  go_enter Try.func40, Try.ntmps40
  go_wp2
  go_loopw [5, 6] (fun x5 x6 wr => ∃ k : Nat, k ≤ n + 1 ∧ x6 = .int .i64 k ∧ wr.ownsRow w.heap.size 4 1 x5 k ((List.replicate k b).map Value.bool) ∧ Below w.heap.size w wr) (fun _ x6 _ => n + 1 - (intOf x6).toNat)
  case atStart => exact ⟨0, by omega, rfl, World.ownsRow_nil _ _ _ _, Below.refl _ _⟩
  case round =>
    obtain ⟨k, hk, hx6, ho, hbl⟩ := hrel
    subst hx6
    obtain ⟨av, cv, rfl⟩ := own_sl1 ho
    have HO : Hid (wr.ownsRow w.heap.size 4 1 (.slice av k cv) k ((List.replicate k b).map Value.bool)) := ho
    have HBL : Hid (Below w.heap.size w wr) := hbl
    clear ho hbl
    by_cases hlt : k ≤ n
    · have hki : (k : Int) ≤ (n : Int) := by omega
      have HSZ : Hid (w.heap.size ≤ wr.heap.size) := HBL.out.size
      go_wp2_with (at_builtin; refine wpList_append_lies _ rfl _ _ 27 rfl w.heap.size 4 j0 _ 1 1 Try.underlying27 HJ.out.1 HJ.out.2.1 HJ.out.2.2.1 HJ.out.2.2.2 rfl (by decide) (.slice av k cv) k ((List.replicate k b).map Value.bool) rfl (own_alloc HO.out _) ⟨wr.heap.size, 0, none⟩ 1 1 [.bool b] rfl rfl (World.news_of_block (cs := #[.bool b]) (t := 4) (fr := (0, 0)) (heap_alloc_new wr _)) (by simp [Value.oneCell']) (by omega) (by unfold maxLen; omega) (by omega) (by have := HSZ.out; simp; omega) _ rfl (fun g cp w6 q1 q2 q3 q4 => ?_); have HN := snoc_own HO.out HBL.out g cp q1 q2 rfl; have HNN : Hid (w6.ownsRow w.heap.size 4 1 (.slice (some ⟨g, 0, none⟩) (k + 1) cp) (k + 1) ((List.replicate k b ++ [b]).map Value.bool) ∧ Below w.heap.size w w6) := HN; clear HN q1 q2 q3 q4)
      go_roundw
      case rel => exact ⟨k + 1, by omega, by go_num, by rw [List.replicate_succ']; exact HNN.out.1, HNN.out.2⟩
      case measure => simp [intOf]; omega
    · obtain rfl : k = n + 1 := by omega
      have hki : ¬ ((n + 1 : Nat) : Int) ≤ (n : Int) := by omega
      go_wp2
      go_ret
      exact ⟨_, rfl, HO.out, HBL.out⟩
theorem orB_take (a b : List Bool) (hl : a.length = b.length) (k : Nat) (hk : k < a.length) : (orB a b).take (k + 1) = (orB a b).take k ++ [a.getD k false || b.getD k false] := by
  have hol := orB_len a b hl
  have hko : k < (orB a b).length := by omega
  have hg : (orB a b)[k] = (a.getD k false || b.getD k false) := by
    have h1 := orB_at a b k hk (by omega)
    rw [List.getElem?_eq_getElem hko] at h1
    rw [Option.some.inj h1]
    simp [hk, show k < b.length by omega]
  rw [List.take_succ_eq_append_getElem hko, hg]
set_option maxHeartbeats 4000000 in
theorem either_any (ys bs : List Bool) (a1 a2 : Option Addr) (len c1 c2 : Nat) (w : World) (h1 : RdT w a1 len ys) (h2 : RdT w a2 len bs) (hm : len ≤ 1000) :
    Calls Try.prog 77 #[.slice a1 len c1, .slice a2 len c2] w (BoPost (orB ys bs) len w) := by
  obtain ⟨j0, ji, jz0, jz1, jz2⟩ := info_parts info_bo
  have HJ : Hid (Try.prog.info? 4 = some j0 ∧ j0.zero = some (.bool false) ∧ j0.size = 1 ∧ j0.bytes = 1) := ⟨ji, jz0, jz1, jz2⟩
  have HL : Hid (ys.length = len ∧ bs.length = len) := ⟨h1.1, h2.1⟩
  have HA : Hid (RdT w a1 len ys) := h1
  have HB : Hid (RdT w a2 len bs) := h2
  have hni : (len : Int) ≤ 1000 := by omega
  clear ji jz0 jz1 jz2 h1 h2
  go_enter Try.func77, Try.ntmps77
  go_wp2
  go_loopw [5, 6] (fun x5 x6 wr => ∃ k : Nat, k ≤ len ∧ x6 = .int .i64 k ∧ wr.ownsRow w.heap.size 4 1 x5 k (((orB ys bs).take k).map Value.bool) ∧ Below w.heap.size w wr) (fun _ x6 _ => len - (intOf x6).toNat)
  case atStart => exact ⟨0, by omega, rfl, World.ownsRow_nil _ _ _ _, Below.refl _ _⟩
  case round =>
    obtain ⟨k, hk, hx6, ho, hbl⟩ := hrel
    subst hx6
    obtain ⟨av, cv, rfl⟩ := own_sl1 ho
    obtain ⟨P, hP⟩ : ∃ P, P = (orB ys bs).take k := ⟨_, rfl⟩
    rw [← hP] at ho
    have HO : Hid (wr.ownsRow w.heap.size 4 1 (.slice av k cv) k (P.map Value.bool)) := ho
    have HBL : Hid (Below w.heap.size w wr) := hbl
    have HP : Hid (P = (orB ys bs).take k) := hP
    clear ho hbl hP
    by_cases hlt : k < len
    · have hki : (k : Int) < (len : Int) := by omega
      have HSZ : Hid (w.heap.size ≤ wr.heap.size) := HBL.out.size
      obtain ⟨b1, o1, rfl, e1⟩ := (HA.out.later HBL.out).2 (by omega)
      obtain ⟨b2, o2, rfl, e2⟩ := (HB.out.later HBL.out).2 (by omega)
      have t1 := e1 k hlt
      have t2 := e2 k hlt
      obtain ⟨x, hx⟩ : ∃ x, x = ys.getD k false := ⟨_, rfl⟩
      obtain ⟨y, hy⟩ : ∃ y, y = bs.getD k false := ⟨_, rfl⟩
      have HTK : Hid (P ++ [x || y] = (orB ys bs).take (k + 1)) := by
        show _ = _
        rw [orB_take ys bs (by rw [HL.out.1, HL.out.2]) k (by rw [HL.out.1]; exact hlt), HP.out, hx, hy]
      rw [← hx] at t1
      rw [← hy] at t2
      obtain ⟨z, hz⟩ : ∃ z, z = (x || y) := ⟨_, rfl⟩
      rw [← hz] at HTK
      clear e1 e2 hx hy
      cases x
      · have hzy : z = y := by rw [hz]; simp
        subst hzy
        clear hz
        go_wp2_with (at_builtin; refine wpList_append_lies _ rfl _ _ 27 rfl w.heap.size 4 j0 _ 1 1 Try.underlying27 HJ.out.1 HJ.out.2.1 HJ.out.2.2.1 HJ.out.2.2.2 rfl (by decide) (.slice av k cv) k (P.map Value.bool) rfl (own_alloc HO.out _) ⟨wr.heap.size, 0, none⟩ 1 1 [.bool z] rfl rfl (World.news_of_block (cs := #[.bool z]) (t := 4) (fr := (0, 0)) (heap_alloc_new wr _)) (by simp [Value.oneCell']) (by omega) (by unfold maxLen; omega) (by omega) (by have := HSZ.out; simp; omega) _ rfl (fun g cp w6 q1 q2 q3 q4 => ?_); have HN := snoc_own HO.out HBL.out g cp q1 q2 rfl; have HNN : Hid (w6.ownsRow w.heap.size 4 1 (.slice (some ⟨g, 0, none⟩) (k + 1) cp) (k + 1) ((P ++ [z]).map Value.bool) ∧ Below w.heap.size w w6) := HN; clear HN q1 q2 q3 q4)
        go_roundw
        case rel => exact ⟨k + 1, by omega, by go_num, by rw [← HTK.out]; exact HNN.out.1, HNN.out.2⟩
        case measure => simp [intOf]; omega
      · have hzy : z = true := by rw [hz]; simp
        subst hzy
        clear hz
        go_wp2_with (at_builtin; refine wpList_append_lies _ rfl _ _ 27 rfl w.heap.size 4 j0 _ 1 1 Try.underlying27 HJ.out.1 HJ.out.2.1 HJ.out.2.2.1 HJ.out.2.2.2 rfl (by decide) (.slice av k cv) k (P.map Value.bool) rfl (own_alloc HO.out _) ⟨wr.heap.size, 0, none⟩ 1 1 [.bool true] rfl rfl (World.news_of_block (cs := #[.bool true]) (t := 4) (fr := (0, 0)) (heap_alloc_new wr _)) (by simp [Value.oneCell']) (by omega) (by unfold maxLen; omega) (by omega) (by have := HSZ.out; simp; omega) _ rfl (fun g cp w6 q1 q2 q3 q4 => ?_); have HN := snoc_own HO.out HBL.out g cp q1 q2 rfl; have HNN : Hid (w6.ownsRow w.heap.size 4 1 (.slice (some ⟨g, 0, none⟩) (k + 1) cp) (k + 1) ((P ++ [true]).map Value.bool) ∧ Below w.heap.size w w6) := HN; clear HN q1 q2 q3 q4)
        go_roundw
        case rel => exact ⟨k + 1, by omega, by go_num, by rw [← HTK.out]; exact HNN.out.1, HNN.out.2⟩
        case measure => simp [intOf]; omega
    · obtain rfl : k = len := by omega
      have HF : Hid (wr.ownsRow w.heap.size 4 1 (.slice av k cv) k ((orB ys bs).map Value.bool)) := by
        have h1 := HO.out
        rw [HP.out, List.take_of_length_le (by rw [orB_len _ _ (by rw [HL.out.1, HL.out.2]), HL.out.1]; exact Nat.le_refl _)] at h1
        exact h1
      go_wp2
      go_ret
      exact ⟨_, rfl, HF.out, HBL.out⟩
theorem bools_eq {as' bs : List Bool} {n : Nat} (h1 : as'.length = n) (h2 : bs.length = n) (h : ∀ j, j < n → as'.getD j false = bs.getD j false) : as' = bs := by
  apply List.ext_getElem (by omega)
  intro i h3 h4
  have := h i (by omega)
  simpa [h3, h4] using this
set_option maxHeartbeats 4000000 in
theorem sameL_any (ys bs : List Bool) (a1 a2 : Option Addr) (n c1 c2 : Nat) (w : World) (h1 : RdT w a1 n ys) (h2 : RdT w a2 n bs) (hn : n ≤ 1000) :
    Calls Try.prog 12 #[.slice a1 n c1, .slice a2 n c2] w fun e w' => e = .returned (.bool (decide (ys = bs))) ∧ Below w.heap.size w w' := by
  have HL : Hid (ys.length = n ∧ bs.length = n) := ⟨h1.1, h2.1⟩
  have HA : Hid (RdT w a1 n ys) := h1
  have HB : Hid (RdT w a2 n bs) := h2
  have hni : (n : Int) ≤ 1000 := by omega
  obtain ⟨R, hR⟩ : ∃ R, R = decide (ys = bs) := ⟨_, rfl⟩
  rw [← hR]
  have HR : Hid (R = decide (ys = bs)) := hR
  clear h1 h2 hR
  go_enter Try.func12, Try.ntmps12
  go_wp2
  go_loopw [5] (fun x5 wr => ∃ k : Nat, k ≤ n ∧ x5 = .int .i64 k ∧ (∀ j, j < k → ys.getD j false = bs.getD j false) ∧ Below w.heap.size w wr) (fun x5 _ => n - (intOf x5).toNat)
  case atStart => exact ⟨0, by omega, rfl, fun j hj => absurd hj (by omega), Below.refl _ _⟩
  case round =>
    obtain ⟨k, hk, hx5, hat, hbl⟩ := hrel
    subst hx5
    have HBL : Hid (Below w.heap.size w wr) := hbl
    have HAT : Hid (∀ j, j < k → ys.getD j false = bs.getD j false) := hat
    clear hbl hat
    by_cases hlt : k < n
    · obtain ⟨b1, o1, rfl, e1⟩ := (HA.out.later HBL.out).2 (by omega)
      obtain ⟨b2, o2, rfl, e2⟩ := (HB.out.later HBL.out).2 (by omega)
      have t1 := e1 k hlt
      have t2 := e2 k hlt
      obtain ⟨x, hx⟩ : ∃ x, x = ys.getD k false := ⟨_, rfl⟩
      obtain ⟨y, hy⟩ : ∃ y, y = bs.getD k false := ⟨_, rfl⟩
      have HXY : Hid (x = ys.getD k false ∧ y = bs.getD k false) := ⟨hx, hy⟩
      rw [← hx] at t1
      rw [← hy] at t2
      have hki : (k : Int) < (n : Int) := by omega
      have hk0 : (0 : Int) ≤ (k : Int) := by omega
      clear e1 e2 hx hy
      by_cases hxy : x = y
      · subst hxy
        have hbb : (x != x) = false := by simp
        go_wp2_with fail
        go_quiet (fail)
        go_wp2
        go_roundw
        case rel =>
          refine ⟨k + 1, by omega, by go_num, fun j hj => ?_, below_drewN HBL.out _⟩
          rcases Nat.lt_or_ge j k with h | h
          · exact HAT.out j h
          · obtain rfl : j = k := by omega
            rw [← HXY.out.1, ← HXY.out.2]
        case measure => first | (simp [intOf]; done) | (simp [intOf]; omega)
      · have hRf : R = false := by
          rw [HR.out, decide_eq_false_iff_not]
          intro e
          apply hxy
          rw [HXY.out.1, HXY.out.2, e]
        subst hRf
        have hbb : (x == y) = false := by cases x <;> cases y <;> simp_all
        have hbc : (x != y) = true := by cases x <;> cases y <;> simp_all
        go_wp2_with fail
        go_quiet (fail)
        go_wp2
        go_ret
        exact ⟨rfl, below_drewN HBL.out _⟩
    · obtain rfl : k = n := by omega
      have hRt : R = true := by
        rw [HR.out, decide_eq_true_eq]
        exact bools_eq HL.out.1 HL.out.2 HAT.out
      subst hRt
      go_wp2
      go_ret
      exact ⟨rfl, HBL.out⟩
end Go.Proofs.Ytjbhfonokgkalaa
