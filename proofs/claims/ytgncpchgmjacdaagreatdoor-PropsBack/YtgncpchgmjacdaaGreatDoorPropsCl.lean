/- The walk of clean: of at most forty ranges the ones that may stand beside those ahead. -/
import Derived.Test.YtgncpchgmjacdaaGreatDoorPropsRf
import Derived.Test.YtgncpchgmjacdaaGreatDoorPropsX
namespace Go.Proofs.YtgncpchgmjacdaaGreatDoor
open Go.RowKit
set_option linter.unusedVariables false

theorem and_low32 (n m : Int) (j : Nat) (hj : j ≤ 20) (hm : (BitVec.ofInt 32 m).toNat = 2 ^ j - 1) : bits .and .i32 n m = n % 2 ^ j := by
  have key : (BitVec.ofInt 32 n &&& BitVec.ofInt 32 m).toNat = (n % ((2 ^ 32 : Nat) : Int)).toNat % 2 ^ j := by
    rw [BitVec.toNat_and, BitVec.toNat_ofInt, hm, Nat.and_two_pow_sub_one_eq_mod]
  show IntKind.i32.wrap ((BitVec.ofInt 32 n &&& BitVec.ofInt 32 m).toNat : Nat) = n % 2 ^ j
  rw [key, IntKind.wrap_i32]
  have hd : ((2 ^ j : Nat) : Int) ∣ ((2 ^ 32 : Nat) : Int) := by
    have : (2 ^ j : Nat) ∣ (2 ^ 32 : Nat) := Nat.pow_dvd_pow 2 (by omega)
    exact_mod_cast this
  have h0 : 0 ≤ n % ((2 ^ 32 : Nat) : Int) := Int.emod_nonneg _ (by decide)
  have h1 : (((n % ((2 ^ 32 : Nat) : Int)).toNat % 2 ^ j : Nat) : Int) = n % 2 ^ j := by
    rw [Int.natCast_emod, Int.toNat_of_nonneg h0, Int.emod_emod_of_dvd n hd]; simp
  have h2 : ((n % ((2 ^ 32 : Nat) : Int)).toNat % 2 ^ j : Nat) < 2 ^ j := Nat.mod_lt _ (Nat.two_pow_pos j)
  have h3 : (2 : Nat) ^ j ≤ 2 ^ 20 := Nat.pow_le_pow_right (by decide) hj
  rw [h1]
  rw [← h1]
  generalize ((n % ((2 ^ 32 : Nat) : Int)).toNat % 2 ^ j : Nat) = q at *
  omega
/-- A range with ends that may be. -/
def clX (x : Rg) : Rg := (x.1 % 1048576, x.1 % 1048576 + x.2.1 % 256, x.2.2)
/-- May it stand beside these? -/
def clOk (out : List Rg) (x : Rg) : Bool := nmOk x.2.2 && out.all fun y => !meets y x
def clS (out : List Rg) (x : Rg) : List Rg := if clOk out (clX x) = true then out ++ [clX x] else out
/-- What clean leaves. -/
def clR (rs : List Rg) : List Rg := (rs.take 40).foldl clS []
theorem clX_re (x : Rg) : reR (clX x) = true := by
  unfold reR clX
  simp only [Bool.and_eq_true, decide_eq_true_eq]
  omega
/-- What may be said of what is left, and of every beginning. -/
def ClAt (out : List Rg) : Prop := out.Pairwise ApR ∧ ∀ r ∈ out, reR r = true ∧ nmOk r.2.2 = true ∧ r.1 ≤ 1048575 ∧ r.2.1 ≤ 1048830
theorem clS_at (out : List Rg) (x : Rg) (h : ClAt out) : ClAt (clS out x) := by
  unfold clS
  split
  · rename_i hk
    unfold clOk at hk
    rw [Bool.and_eq_true] at hk
    refine ⟨?_, fun r hr => ?_⟩
    · rw [List.pairwise_append]
      refine ⟨h.1, List.pairwise_singleton _ _, fun a ha b hb => ?_⟩
      rw [List.mem_singleton.1 hb]
      have := List.all_eq_true.1 hk.2 a ha
      simpa [ApR] using this
    · rcases List.mem_append.1 hr with hr | hr
      · exact h.2 r hr
      · rw [List.mem_singleton.1 hr]
        refine ⟨clX_re x, hk.1, ?_, ?_⟩ <;> (unfold clX; simp only []; omega)
  · exact h
theorem clS_len (out : List Rg) (x : Rg) : (clS out x).length ≤ out.length + 1 := by
  unfold clS; split <;> simp
theorem cl_fold : (l : List Rg) → (out : List Rg) → ClAt out → ClAt (l.foldl clS out) ∧ (l.foldl clS out).length ≤ out.length + l.length
  | [], out, h => ⟨h, by simp⟩
  | x :: r, out, h => by
    have := cl_fold r (clS out x) (clS_at out x h)
    have h2 := clS_len out x
    refine ⟨this.1, ?_⟩
    have h3 := this.2
    simp only [List.foldl_cons, List.length_cons]
    omega
theorem cl_all (rs : List Rg) : ClAt (clR rs) ∧ (clR rs).length ≤ 40 := by
  have := cl_fold (rs.take 40) [] ⟨List.Pairwise.nil, fun r hr => by simp at hr⟩
  refine ⟨this.1, ?_⟩
  have h := this.2
  simp at h
  unfold clR
  omega
theorem cl_step (rs : List Rg) (k : Nat) (hk : k < rs.length) : (rs.take (k + 1)).foldl clS [] = clS ((rs.take k).foldl clS []) (rs.getD k (0, 0, [])) := by
  rw [List.take_add_one, List.getElem?_eq_getElem hk, List.foldl_append]
  simp [hk]
theorem all_take (out : List Rg) (x : Rg) (k : Nat) (hk : k < out.length) : (out.take (k + 1)).all (fun y => !meets y x) = ((out.take k).all (fun y => !meets y x) && !meets (out.getD k (0, 0, [])) x) := by
  rw [List.take_add_one, List.getElem?_eq_getElem hk, List.all_append]
  simp [hk]
theorem encR_one (x : Rg) : ∀ v ∈ encR x, v.oneCell' = true := by
  intro v hv
  simp [encR] at hv
  rcases hv with rfl | rfl | rfl <;> rfl

set_option maxHeartbeats 4000000 in
theorem clean_any (rs : List Rg) (a : Option Addr) (len cap : Nat) (w : World) (hrd : RdR w a len rs) (hrs : RgS rs) (hln : ∀ r ∈ rs, r.2.2.length ≤ 9223372036854775807) (hm : len ≤ 9223372036854775807) :
    Calls Tryz.prog 18 #[.slice a len cap] w fun e w' => Below w.heap.size w w' ∧ ∃ v, e = .returned v ∧ w'.ownsRow w.heap.size 39 3 v (clR rs).length (flatR (clR rs)) := by
  have HD : Hid (RdR w a len rs) := hrd
  have HL : Hid (rs.length = len) := hrd.1
  have HRS : Hid (RgS rs) := hrs
  have HLN : Hid (∀ r ∈ rs, r.2.2.length ≤ 9223372036854775807) := hln
  have mixed : Tryz.prog.follows .mixedOrders = true := by kernel_rfl
  obtain ⟨i0, hi, hz0, hz1, hz2⟩ := info_parts info_R
  have HI : Hid (Tryz.prog.info? 39 = some i0 ∧ i0.zero = some (.agg #[.int .i32 0, .int .i32 0, .string ⟨#[]⟩]) ∧ i0.size = 3 ∧ i0.bytes = 24) := ⟨hi, hz0, hz1, hz2⟩
  clear hrd hrs hln hi hz0 hz1 hz2
  go_enter Tryz.func18, Tryz.ntmps18
  go_wp2
  go_loopw [3, 4] (fun x3 x4 wr => ∃ k : Nat, k ≤ len ∧ k ≤ 40 ∧ x4 = .int .i64 k ∧ wr.ownsRow w.heap.size 39 3 x3 ((rs.take k).foldl clS []).length (flatR ((rs.take k).foldl clS [])) ∧ Below w.heap.size w wr) (fun _ x4 _ => 40 - (intOf x4).toNat)
  case atStart => exact ⟨0, by omega, by omega, rfl, ⟨rfl, .inl ⟨rfl, rfl⟩⟩, Below.refl _ _⟩
  case round =>
    obtain ⟨k, hk, hk40, hx4, hown, hbel⟩ := hrel
    subst hx4
    have HO : Hid (wr.ownsRow w.heap.size 39 3 u3 ((rs.take k).foldl clS []).length (flatR ((rs.take k).foldl clS []))) := hown
    have HB : Hid (Below w.heap.size w wr) := hbel
    clear hown hbel
    by_cases hgo : k < len ∧ k < 40
    · obtain ⟨hlt, hlt40⟩ := hgo
      obtain ⟨b, off, hab, c0, c1, c2⟩ := (HD.out.later HB.out).at k hlt
      subst hab
      obtain ⟨x, hx⟩ : ∃ x, x = rs.getD k (0, 0, []) := ⟨_, rfl⟩
      rw [← hx] at c0 c1 c2
      have hkl : k < rs.length := by rw [HL.out]; exact hlt
      have hxm : x ∈ rs := by rw [hx]; simp [hkl]
      have HST : Hid ((rs.take (k + 1)).foldl clS [] = clS ((rs.take k).foldl clS []) x) := by show _ = _; rw [hx]; exact cl_step rs k hkl
      have hR := HRS.out x hxm
      have hLn := HLN.out x hxm
      obtain ⟨x1, x2, x3⟩ := x
      simp only [] at c0 c1 c2 hR hLn
      obtain ⟨y1, hy1⟩ : ∃ y, y = x1 % 1048576 := ⟨_, rfl⟩
      obtain ⟨d2, hd2⟩ : ∃ y, y = x2 % 256 := ⟨_, rfl⟩
      obtain ⟨y2, hy2⟩ : ∃ y, y = y1 + d2 := ⟨_, rfl⟩
      have HCX : Hid (clX (x1, x2, x3) = (y1, y2, x3)) := by show clX _ = _; rw [hy2, hd2, hy1]; rfl
      have hand1 : bits .and .i32 x1 1048575 = y1 := by rw [and_low32 x1 1048575 20 (by omega) (by decide)]; exact hy1.symm
      have hand2 : bits .and .i32 x2 255 = d2 := by rw [and_low32 x2 255 8 (by omega) (by decide)]; exact hd2.symm
      have hadd : IntKind.i32.wrap (y1 + d2) = y2 := by rw [IntKind.wrap_i32]; omega
      obtain ⟨sx, hsx⟩ : ∃ sx, sx = strOfNums x3 := ⟨_, rfl⟩
      rw [← hsx] at c2
      obtain ⟨nb, hnb⟩ : ∃ nb, nb = nmOk x3 := ⟨_, rfl⟩
      have HNM : Hid (∀ W : World, Calls Tryz.prog 29 #[.string sx] W fun e w' => e = .returned (.bool nb) ∧ w' = W) := by intro W; rw [hsx, hnb]; exact nameR_any x3 W hR hLn
      have HNB : Hid (nb = nmOk x3) := hnb
      have HSX : Hid (sx = strOfNums x3) := hsx
      clear hx hxm hkl hR hLn hy1 hd2 hy2 hsx hnb
      have hd40 : decide ((k : Int) < 40) = true := decide_eq_true (by omega)
      obtain ⟨out, hout⟩ : ∃ out, out = (rs.take k).foldl clS [] := ⟨_, rfl⟩
      rw [← hout] at HO HST
      have hol : out.length ≤ k := by
        have := (cl_fold (rs.take k) [] ⟨List.Pairwise.nil, fun r hr => by simp at hr⟩).2
        rw [← hout] at this
        simp at this
        omega
      have HOL : Hid (out.length ≤ 40) := by show out.length ≤ 40; omega
      obtain ⟨ao, capo, hu3, _, _, hro⟩ := own_rdR HO.out
      have HRO : Hid (RdR wr ao out.length out) := hro
      obtain ⟨n, hn⟩ : ∃ n, n = out.length := ⟨_, rfl⟩
      have HNL : Hid (n = out.length) := hn
      have hn40 : (n : Int) ≤ 40 := by omega
      rw [← hn] at hu3 HRO HO
      subst hu3
      have HXB : Hid (∀ o : Obj, Below wr.heap.size wr (wr.alloc o)) := fun o => (Below.refl _ wr).alloc (Nat.le_refl _) o
      clear hro hn hol hout
      go_wp2_with fail
      refine (HNM.out _).mono ?_
      rintro e w' ⟨rfl, hw'⟩
      subst hw'
      obtain ⟨wx, hwx⟩ : ∃ wx, wx = wr.alloc (.cells #[.int .i32 y1, .int .i32 y2, .string sx] 39) := ⟨_, rfl⟩
      have HBX : Hid (Below wr.heap.size wr wx) := by show Below _ _ _; rw [hwx]; exact HXB.out _
      have HKX : Hid (wx.heap[wr.heap.size]? = some (.cells #[.int .i32 y1, .int .i32 y2, .string sx] 39)) := by show _ = _; rw [hwx]; exact heap_alloc_new wr _
      rw [← hwx]
      have HWX : Hid (wx = wr.alloc (.cells #[.int .i32 y1, .int .i32 y2, .string sx] 39)) := hwx
      clear hwx
      have HRX : Hid (RdR wx ao n out) := HRO.out.later HBX.out
      obtain ⟨xb, hxb⟩ : ∃ xb, xb = wr.heap.size := ⟨_, rfl⟩
      rw [← hxb] at HKX ⊢
      have HXBE : Hid (xb = wr.heap.size) := hxb
      clear hxb
      go_wp2
      go_loopw [6, 7] (fun x6 x7 wl => ∃ j : Nat, j ≤ n ∧ x7 = .int .i64 j ∧ x6 = .bool (nb && (out.take j).all fun y => !meets y (y1, y2, x3)) ∧ ∃ q, wl = wx.drewN q) (fun _ x7 _ => n - (intOf x7).toNat)
      case atStart => exact ⟨0, by omega, rfl, by simp, 0, rfl⟩
      case round =>
        obtain ⟨j, hj, hx7, hx6, q, hwl⟩ := hrel
        subst hx7 hx6
        have HWL : Hid (wr = wx.drewN q) := hwl
        have HBL : Hid (Below wx.heap.size wx wr) := by show Below _ _ _; rw [hwl]; exact below_drewN wx q
        clear hwl
        obtain ⟨B, hB⟩ : ∃ B, B = (nb && (out.take j).all fun y => !meets y (y1, y2, x3)) := ⟨_, rfl⟩
        rw [← hB]
        have HBB : Hid (B = (nb && (out.take j).all fun y => !meets y (y1, y2, x3))) := hB
        clear hB
        have hkx : wr.heap[xb]? = some (.cells #[.int .i32 y1, .int .i32 y2, .string sx] 39) := by rw [HBL.out.block _ (Array.getElem?_eq_some_iff.1 HKX.out).1]; exact HKX.out
        have e0 : wr.cell? ⟨xb, 0, none⟩ = some (.int .i32 y1) := cell_of_row wr xb 0 _ _ _ hkx
        have e1 : wr.cell? ⟨xb, 1, none⟩ = some (.int .i32 y2) := cell_of_row wr xb 1 _ _ _ hkx
        have e2 : wr.cell? ⟨xb, 2, none⟩ = some (.string sx) := cell_of_row wr xb 2 _ _ _ hkx
        clear hkx
        by_cases hlj : j < n
        · obtain ⟨b2, off2, hab2, c0', c1', c2'⟩ := (HRX.out.later HBL.out).at j hlj
          subst hab2
          obtain ⟨p, hp⟩ : ∃ p, p = out.getD j (0, 0, []) := ⟨_, rfl⟩
          rw [← hp] at c0' c1' c2'
          have HAT : Hid ((out.take (j + 1)).all (fun y => !meets y (y1, y2, x3)) = ((out.take j).all (fun y => !meets y (y1, y2, x3)) && !meets p (y1, y2, x3))) := by show _ = _; rw [hp]; exact all_take out _ j (by rw [← HNL.out]; exact hlj)
          obtain ⟨p1, p2, p3⟩ := p
          simp only [] at c0' c1'
          have HNX : Hid (∀ B' : Bool, B' = (B && !meets (p1, p2, p3) (y1, y2, x3)) → B' = (nb && (out.take (j + 1)).all fun y => !meets y (y1, y2, x3))) := by
            intro B' h
            rw [h, HAT.out, HBB.out, Bool.and_assoc]
          have hj63 : (j : Int) ≤ 40 := by omega
          clear hp c2'
          cases B with
          | false =>
            have HN : Hid (false = (nb && (out.take (j + 1)).all fun y => !meets y (y1, y2, x3))) := HNX.out false (by simp)
            go_upto_region 12 with fail
            go_quiet (fail)
            go_wp2
            go_roundw
            case rel => exact ⟨j + 1, by omega, by go_num, by rw [← HN.out], q + nq, by rw [HWL.out, World.drewN_drewN]⟩
            case measure => simp [intOf]; omega
          | true =>
            by_cases t1 : p2 < y1
            · have HN : Hid (true = (nb && (out.take (j + 1)).all fun y => !meets y (y1, y2, x3))) := HNX.out true (by unfold meets; simp only []; rw [decide_eq_false (show ¬ y1 ≤ p2 by omega)]; simp)
              go_upto_region 12 with fail
              go_quiet (fail)
              go_wp2
              go_roundw
              case rel => exact ⟨j + 1, by omega, by go_num, by rw [← HN.out], q + nq, by rw [HWL.out, World.drewN_drewN]⟩
              case measure => simp [intOf]; omega
            · by_cases t2 : y2 < p1
              · have HN : Hid (true = (nb && (out.take (j + 1)).all fun y => !meets y (y1, y2, x3))) := HNX.out true (by unfold meets; simp only []; rw [decide_eq_false (show ¬ p1 ≤ y2 by omega)]; simp)
                have t2' : decide (y2 < p1) = true := decide_eq_true t2
                go_upto_region 12 with fail
                go_quiet (fail)
                go_wp2
                go_roundw
                case rel => exact ⟨j + 1, by omega, by go_num, by rw [← HN.out], q + nq, by rw [HWL.out, World.drewN_drewN]⟩
                case measure => simp [intOf]; omega
              · have HN : Hid (false = (nb && (out.take (j + 1)).all fun y => !meets y (y1, y2, x3))) := HNX.out false (by unfold meets; simp only []; rw [decide_eq_true (show p1 ≤ y2 by omega), decide_eq_true (show y1 ≤ p2 by omega)]; simp)
                have t2' : decide (y2 < p1) = false := decide_eq_false t2
                go_upto_region 12 with fail
                go_quiet (fail)
                go_wp2
                go_roundw
                case rel => exact ⟨j + 1, by omega, by go_num, by rw [← HN.out], q + nq, by rw [HWL.out, World.drewN_drewN]⟩
                case measure => simp [intOf]; omega
        · obtain rfl : n = j := by omega
          have HCL : Hid (B = clOk out (clX (x1, x2, x3))) := by
            show B = clOk _ _
            rw [HCX.out, HBB.out, List.take_of_length_le (by rw [HNL.out]; omega), HNB.out]
            rfl
          have HBW : Hid (Below w.heap.size w wr) := by
            show Below _ _ _
            exact (HB.out.trans (HBX.out.mono HB.out.size)).trans (HBL.out.mono (Nat.le_trans HB.out.size HBX.out.size))
          have HOW : Hid (wr.ownsRow w.heap.size 39 3 (.slice ao n capo) n (flatR out)) := by
            show World.ownsRow _ _ _ _ _ _ _
            have hh : wr.heap = wx.heap := by rw [HWL.out]; rfl
            refine HO.out.kept (row := none) ⟨?_, ?_, ?_, ?_, fun i hi _ => ?_⟩ (Classical.em _)
            · rw [HWL.out, HWX.out]; rfl
            · rw [HWL.out, HWX.out]; rfl
            · rw [HWL.out, HWX.out]; rfl
            · rw [hh]; exact HBX.out.size
            · rw [hh]; exact HBX.out.block i hi
          cases B with
          | false =>
            have HN : Hid ((rs.take (k + 1)).foldl clS [] = out) := by
              show _ = out
              rw [HST.out]
              unfold clS
              rw [← HCL.out]
              rfl
            go_wp2
            go_roundw
            case rel => exact ⟨k + 1, by omega, by omega, by go_num, by rw [HN.out, ← HNL.out]; exact HOW.out, HBW.out⟩
            case measure => simp [intOf]; omega
          | true =>
            have HN : Hid ((rs.take (k + 1)).foldl clS [] = out ++ [(y1, y2, x3)]) := by
              show _ = _
              rw [HST.out]
              unfold clS
              rw [← HCL.out, HCX.out]
              rfl
            have HNEW : Hid (∀ o2 : Obj, o2 = .cells (encR (y1, y2, x3)).toArray 39 → ∀ j u, (encR (y1, y2, x3))[j]? = some u → (wr.alloc o2).cell? ((⟨wr.heap.size, 0, none⟩ : Addr).add j) = some u) := by
              intro o2 ho j u hu
              rw [add_lit]
              refine news_R (w := wr.alloc o2) (vb := wr.heap.size) (x := (y1, y2, x3)) (t := 39) ?_ j u hu
              rw [ho]
              exact heap_alloc_new wr _
            have HOA : Hid (∀ o2 : Obj, (wr.alloc o2).ownsRow w.heap.size 39 3 (.slice ao n capo) n (flatR out)) := fun o2 =>
              HOW.out.kept (row := none) ⟨rfl, rfl, rfl, by simp, fun j hj _ => by rw [Below.heap_alloc _ _ _ hj]⟩ (Classical.em _)
            have HLT : Hid (∀ j, (Value.slice ao n capo).ownBlock = some j → w.heap.size ≤ j ∧ j < wr.heap.size) := HOW.out.lt
            have HFIN : Hid (∀ (o2 : Obj) v' w', w'.ownsRow w.heap.size 39 3 v' (n + 1) (flatR out ++ encR (y1, y2, x3)) → (wr.alloc o2).grownBy w' (Value.slice ao n capo).ownBlock → w'.ownsRow w.heap.size 39 3 v' (n + 1) (flatR (out ++ [(y1, y2, x3)])) ∧ Below w.heap.size w w') := by
              intro o2 v' w' h1 h2
              refine ⟨?_, (HBW.out.alloc HBW.out.size o2).grown h2 (by simp; have := HBW.out.size; omega) (fun j hj => (HLT.out j hj).1)⟩
              rw [flatR_app]
              simpa [flatR] using h1
            have hes : Value.agg #[.int .i32 y1, .int .i32 y2, .string sx] = .agg (encR (y1, y2, x3)).toArray := by rw [HSX.out]; rfl
            have HON : Hid (n ≤ 40) := by have := HOL.out; rw [← HNL.out] at this; exact this
            have HES : Hid (#[Value.int .i32 y1, .int .i32 y2, .string sx] = (encR (y1, y2, x3)).toArray) := by rw [HSX.out]; rfl
            clear hes
            have hn63 : (n : Int) ≤ 40 := hn40
            go_wp2_with (at_builtin; refine wpList_append_own _ rfl _ _ 23 rfl w.heap.size 39 i0 _ 3 24 Tryz.underlying23 HI.out.1 HI.out.2.1 HI.out.2.2.1 HI.out.2.2.2 rfl (by decide) _ n (flatR out) rfl (HOA.out _) ⟨wr.heap.size, 0, none⟩ 1 1 (encR (y1, y2, x3)) rfl rfl (HNEW.out _ (by rw [← HES.out])) (encR_one _) (by have := HON.out; unfold maxLen; omega) (by have := HON.out; omega) (by simp; have := HBW.out.size; omega) (fun v' w' h1 h2 _ => ?_); have HF := HFIN.out _ v' w' h1 h2; have HFF : Hid _ := HF; clear HF h1 h2)
            go_roundw
            case rel => exact ⟨k + 1, by omega, by omega, by go_num, by rw [HN.out, List.length_append, ← HNL.out]; exact HFF.out.1, HFF.out.2⟩
            case measure => simp [intOf]; omega
    · have HTK : Hid ((rs.take k).foldl clS [] = clR rs) := by
        show _ = clR rs
        unfold clR
        rcases Nat.lt_or_ge k len with h | h
        · rw [show k = 40 by omega]
        · rw [List.take_of_length_le (by rw [HL.out]; omega), List.take_of_length_le (by rw [HL.out]; omega)]
      rw [HTK.out] at HO
      by_cases hlt : k < len
      · have hk40' : ¬ (k : Int) < 40 := by omega
        go_wp2
        go_ret
        exact ⟨HB.out, _, rfl, HO.out⟩
      · go_wp2
        go_ret
        exact ⟨HB.out, _, rfl, HO.out⟩
end Go.Proofs.YtgncpchgmjacdaaGreatDoor
