/- The walks of Fits where there is no such place, and of ruleFits. -/
import Derived.Test.YtjbhfonokgkalaaReaN
namespace Go.Proofs.Ytjbhfonokgkalaa
open Go.RowKit
set_option linter.unusedVariables false
set_option linter.unusedSimpArgs false

set_option maxHeartbeats 2000000 in
theorem fits_out (r : Rl) (q : RlP) (a : Option Addr) (len cap : Nat) (p : Int) (w : World) (hl : len ≤ 1000000) (hp : p < 0 ∨ (len : Int) < p) :
    Calls Try.prog 14 #[.agg (r.vals q), .slice a len cap, .int .i64 p] w fun e w' => e = .returned (.bool false) ∧ Below w.heap.size w w' := by
  obtain ⟨la, lc, lp, lpc, ra, rc, rp, rpc⟩ := q
  have HB : Hid (Below w.heap.size w (w.alloc (.cells #[.int .i64 r.left.op, .slice la r.left.cl.length lc, .slice lp (toL r.left.kids).length lpc, .int .i64 r.right.op, .slice ra r.right.cl.length rc, .slice rp (toL r.right.kids).length rpc, .bool r.brk, .bool r.start] 35))) := (Below.refl _ w).alloc (Nat.le_refl _) _
  by_cases h : p < 0
  · clear hp
    go_enter Try.func14, Try.ntmps14
    go_wp2
    go_ret
    exact ⟨rfl, HB.out⟩
  · have hp2 : (len : Int) < p := by omega
    clear hp
    go_enter Try.func14, Try.ntmps14
    go_wp2
    go_ret
    exact ⟨rfl, HB.out⟩
/-- Does a rule fit at a number? -/
def fitI (r : Rl) (xs : List Int) (p : Int) : Bool := if 0 ≤ p ∧ p ≤ xs.length then r.fit xs p.toNat else false
theorem fits_any (d : Nat) (r : Rl) (q : RlP) (xs : List Int) (a : Option Addr) (len cap : Nat) (p : Int) (w : World) (hr : RlAt w d r q) (hd : d ≤ 131073) (hrd : Rd .i64 w a len xs) (hcap : len ≤ cap) (hnone : a = none → cap = 0) (hl : len ≤ 1000000) :
    Calls Try.prog 14 #[.agg (r.vals q), .slice a len cap, .int .i64 p] w fun e w' => e = .returned (.bool (fitI r xs p)) ∧ Below w.heap.size w w' := by
  by_cases h : 0 ≤ p ∧ p ≤ xs.length
  · have hlen := hrd.1
    obtain ⟨n, rfl⟩ : ∃ n : Nat, p = n := ⟨p.toNat, by omega⟩
    rw [show fitI r xs (n : Int) = r.fit xs n by unfold fitI; rw [if_pos h]; rfl]
    exact fits_in d r q xs a len cap n w hr hd hrd hcap hnone hl (by omega)
  · rw [show fitI r xs p = false by unfold fitI; rw [if_neg h]]
    have hlen := hrd.1
    exact fits_out r q a len cap p w hl (by omega)

/-- Where a rule fits. -/
def ruleL (r : Rl) (xs : List Int) : List Bool := (List.range (xs.length + 1)).map fun p => r.fit xs p
theorem ruleL_len (r : Rl) (xs : List Int) : (ruleL r xs).length = xs.length + 1 := by simp [ruleL]
theorem ruleL_get (r : Rl) (xs : List Int) (p : Nat) (hp : p ≤ xs.length) : (ruleL r xs).getD p false = r.fit xs p := by
  unfold ruleL
  rw [List.getD_eq_getElem?_getD, List.getElem?_map, List.getElem?_range (by omega)]
  rfl
theorem jB_at (a b : List Bool) (k : Nat) (hab : a.length = b.length) (hk : k < b.length) : (a.take k ++ b.drop k)[k]? = some (b.getD k false) := by
  rw [List.getElem?_append_right (by simp; omega), List.getElem?_drop, List.getD_eq_getElem?_getD]
  rw [show k + (k - (a.take k).length) = k by simp; omega, List.getElem?_eq_getElem hk]
  rfl
theorem jB_set (a b : List Bool) (k : Nat) (hab : a.length = b.length) (hk : k < b.length) : (a.take k ++ b.drop k).set k (a.getD k false) = a.take (k + 1) ++ b.drop (k + 1) := by
  have h1 : (a.take k).length = k := by simp; omega
  have h2 : a.take (k + 1) = a.take k ++ [a[k]'(by omega)] := by rw [List.take_add_one, List.getElem?_eq_getElem (by omega)]; rfl
  have h3 : a.getD k false = a[k]'(by omega) := by rw [List.getD_eq_getElem?_getD, List.getElem?_eq_getElem (by omega)]; rfl
  rw [List.set_append_right _ _ (by omega), h1, Nat.sub_self, List.drop_eq_getElem_cons hk, List.set_cons_zero, h2, h3, List.append_assoc]
  rfl

set_option maxHeartbeats 8000000 in
theorem ruleFits_any (d : Nat) (r : Rl) (q : RlP) (xs : List Int) (a : Option Addr) (len cap : Nat) (w : World) (hr : RlAt w d r q) (hd : d ≤ 131073) (hrd : Rd .i64 w a len xs) (hnone : a = none → cap = 0) (hl : len ≤ 1000000) :
    Calls Try.prog 37 #[.agg (r.vals q), .slice a len cap] w (RowPost (ruleL r xs) w) := by
  have hlen := hrd.1
  obtain ⟨W0, hW0⟩ : ∃ W0, W0 = w.alloc (.cells (r.vals q) 35) := ⟨_, rfl⟩
  obtain ⟨H, hH⟩ : ∃ H, H = w.heap.size := ⟨_, rfl⟩
  have HB0 : Hid (Below H w W0) := by rw [hW0, hH]; exact (Below.refl _ w).alloc (Nat.le_refl _) _
  have HS0 : Hid (W0.heap.size = H + 1 ∧ H = w.heap.size) := ⟨by rw [hW0, hH]; simp, hH⟩
  have hbx : W0.heap[H]? = some (.cells (r.vals q) 35) := by rw [hW0, hH]; exact heap_alloc_new w _
  have HBX : Hid (W0.heap[H]? = some (.cells (r.vals q) 35)) := hbx
  obtain ⟨LL, hLL⟩ : ∃ LL, LL = endsL (r.left.nrm false) (!r.start) xs := ⟨_, rfl⟩
  obtain ⟨RR, hRR⟩ : ∃ RR, RR = rightL r xs := ⟨_, rfl⟩
  obtain ⟨FF, hFF⟩ : ∃ FF, FF = ruleL r xs := ⟨_, rfl⟩
  have HLN : Hid (LL.length = len + 1 ∧ RR.length = len + 1 ∧ FF.length = len + 1) := ⟨by rw [hLL, endsL_len]; omega, by rw [hRR, rightL_len]; omega, by rw [hFF, ruleL_len]; omega⟩
  have HFG : Hid (∀ k, k ≤ len → FF.getD k false = (LL.getD k false && RR.getD k false)) := by
    intro k hk
    rw [hFF, hLL, hRR, ruleL_get _ _ _ (by omega), endsL_get _ _ _ _ (by omega), rightL_get _ _ _ (by omega)]
    rfl
  have HM : Hid (∀ W, Below W0.heap.size W0 W → Calls Try.prog 42 #[.agg (r.vals q), .slice a len cap] W fun e w2 => ∃ g c, e = .returned (.slice (some ⟨g, 0, none⟩) (len + 1) c) ∧ w2.heap[H]? = some (.cells (r.vals q) 35) ∧ H < w2.heap.size ∧
      Hid (Calls Try.prog 43 #[.agg (r.vals q), .slice a len cap] w2 fun e w3 => ∃ g3 c3, e = .returned (.slice (some ⟨g3, 0, none⟩) (len + 1) c3) ∧ w3.heap[H]? = some (.cells (r.vals q) 35) ∧ Hid (g ≠ g3 ∧ w3.ownsRow (H + 1) 4 1 (.slice (some ⟨g, 0, none⟩) (len + 1) c) (len + 1) (LL.map Value.bool) ∧ w3.ownsRow (H + 1) 4 1 (.slice (some ⟨g3, 0, none⟩) (len + 1) c3) (len + 1) (RR.map Value.bool) ∧ Below H w w3))) := by
    intro W hW
    have h0 := HS0.out
    have hn := HLN.out
    have hbw : Below w.heap.size w W := by rw [← hH]; exact HB0.out.trans (hW.mono (by omega))
    refine (leftFits_any d r q xs a len cap W (hr.later hbw) hd (hrd.later hbw) hl).mono ?_
    rintro e w2 ⟨v, rfl, ho, hb⟩
    rw [← hLL, hn.1] at ho
    obtain ⟨g, c, rfl, hgb, hgl⟩ := ho.form (by omega)
    have hb0 : Below W0.heap.size W0 w2 := hW.trans (hb.mono hW.size)
    refine ⟨g, c, rfl, (hb0.block H (by omega)).trans HBX.out, by have := hb0.size; omega, ?_⟩
    have hbw2 : Below w.heap.size w w2 := hbw.trans (hb.mono hbw.size)
    refine (rightFits_any d r q xs a len cap w2 (hr.later hbw2) hd (hrd.later hbw2) hnone hl).mono ?_
    rintro e w3 ⟨v3, rfl, ho3, hb3⟩
    rw [← hRR, hn.2.1] at ho3
    obtain ⟨g3, c3, rfl, hgb3, hgl3⟩ := ho3.form (by omega)
    have hs0 := hW.size
    have hs1 := hb.size
    refine ⟨g3, c3, rfl, (hb3.block H (by have := hb0.size; omega)).trans ((hb0.block H (by omega)).trans HBX.out), by omega, own_base (own_later5 ho hb3) (by omega), own_base ho3 (by omega), ?_⟩
    rw [hH]
    exact hbw2.trans (hb3.mono hbw2.size)
  obtain ⟨lo, hlo⟩ : ∃ lo, lo = r.left.op := ⟨_, rfl⟩
  obtain ⟨ln, hln⟩ : ∃ ln, ln = r.left.cl.length := ⟨_, rfl⟩
  obtain ⟨lk, hlk⟩ : ∃ lk, lk = (toL r.left.kids).length := ⟨_, rfl⟩
  obtain ⟨ro, hro⟩ : ∃ ro, ro = r.right.op := ⟨_, rfl⟩
  obtain ⟨rn, hrn⟩ : ∃ rn, rn = r.right.cl.length := ⟨_, rfl⟩
  obtain ⟨rk, hrk⟩ : ∃ rk, rk = (toL r.right.kids).length := ⟨_, rfl⟩
  obtain ⟨st, hst⟩ : ∃ st, st = r.start := ⟨_, rfl⟩
  obtain ⟨br, hbr⟩ : ∃ br, br = r.brk := ⟨_, rfl⟩
  rw [← hFF]
  obtain ⟨la, lc, lp, lpc, ra, rc, rp, rpc⟩ := q
  simp only [Rl.vals, ← hlo, ← hln, ← hlk, ← hro, ← hrn, ← hrk, ← hst, ← hbr] at HM HBX hbx hW0 ⊢
  have HUP : Hid (∀ W : World, W.heap[H]? = some (.cells #[.int .i64 lo, .slice la ln lc, .slice lp lk lpc, .int .i64 ro, .slice ra rn rc, .slice rp rk rpc, .bool br, .bool st] 35) → W.cell? ⟨H, 0, none⟩ = some (.int .i64 lo) ∧ W.cell? ⟨H, 1, none⟩ = some (.slice la ln lc) ∧ W.cell? ⟨H, 2, none⟩ = some (.slice lp lk lpc) ∧ W.cell? ⟨H, 3, none⟩ = some (.int .i64 ro) ∧ W.cell? ⟨H, 4, none⟩ = some (.slice ra rn rc) ∧ W.cell? ⟨H, 5, none⟩ = some (.slice rp rk rpc) ∧ W.cell? ⟨H, 6, none⟩ = some (.bool br) ∧ W.cell? ⟨H, 7, none⟩ = some (.bool st)) := fun W hW => box8 hW
  have HD : Hid (Below W0.heap.size W0 W0.drew) := (Below.refl _ _).drew
  have hli : (len : Int) ≤ 1000000 := by omega
  clear hr hd hrd hl hlo hln hlk hro hrn hrk hst hbr hbx HB0 hnone hlen hLL hRR hFF
  go_enter Try.func37, Try.ntmps37
  go_upto_region 1 with fail
  rw [← hH, ← hW0]
  clear hH hW0
  go_region_held3 (fun w' => w'.cell? ⟨H, 0, none⟩ = some (.int .i64 lo) ∧ w'.cell? ⟨H, 1, none⟩ = some (.slice la ln lc) ∧ w'.cell? ⟨H, 2, none⟩ = some (.slice lp lk lpc) ∧ w'.cell? ⟨H, 3, none⟩ = some (.int .i64 ro) ∧ w'.cell? ⟨H, 4, none⟩ = some (.slice ra rn rc) ∧ w'.cell? ⟨H, 5, none⟩ = some (.slice rp rk rpc) ∧ w'.cell? ⟨H, 6, none⟩ = some (.bool br) ∧ w'.cell? ⟨H, 7, none⟩ = some (.bool st))
    (first | exact HUP.out W0 HBX.out | exact hS2 | exact hS3)
    (first
      | (go_at_call 42; refine (HM.out _ HD.out).mono ?_; rintro e w2 ⟨g, c, rfl, hbx2, hHl, HCL⟩; have hS2 := HUP.out w2 hbx2; clear hbx2)
      | (go_at_call 43; refine HCL.out.mono ?_; rintro e w3 ⟨g3, c3, rfl, hbx3, HFI⟩; have hS3 := HUP.out w3 hbx3; clear hbx3))
  all_goals
    have HST : Hid (∃ ys : List Bool, w3.ownsRow (H + 1) 4 1 (.slice (some ⟨g, 0, none⟩) (len + 1) c) (len + 1) (ys.map Value.bool) ∧ ys = FF.take 0 ++ LL.drop 0 ∧ w3.ownsRow (H + 1) 4 1 (.slice (some ⟨g3, 0, none⟩) (len + 1) c3) (len + 1) (RR.map Value.bool) ∧ Below H w w3) := ⟨LL, HFI.out.2.1, by simp, HFI.out.2.2.1, HFI.out.2.2.2⟩
    have HNE : Hid (g ≠ g3) := HFI.out.1
    clear hS2 hS3 HCL HM HFI hHl
    go_wp2
    go_loopw [16] (fun x16 wr => ∃ k : Nat, k ≤ len + 1 ∧ x16 = .int .i64 k ∧ ∃ ys : List Bool, wr.ownsRow (H + 1) 4 1 (.slice (some ⟨g, 0, none⟩) (len + 1) c) (len + 1) (ys.map Value.bool) ∧ ys = FF.take k ++ LL.drop k ∧ wr.ownsRow (H + 1) 4 1 (.slice (some ⟨g3, 0, none⟩) (len + 1) c3) (len + 1) (RR.map Value.bool) ∧ Below H w wr) (fun x16 _ => len + 1 - (intOf x16).toNat)
    case atStart => exact ⟨0, by omega, rfl, HST.out⟩
    case round =>
      obtain ⟨k, hk, hx16, ys, o1, hys, o2, hbl⟩ := hrel
      subst hx16
      clear HST
      have hn := HLN.out
      by_cases hlt : k < len + 1
      · obtain ⟨lv, hlv⟩ : ∃ lv, lv = LL.getD k false := ⟨_, rfl⟩
        obtain ⟨rv, hrv⟩ : ∃ rv, rv = RR.getD k false := ⟨_, rfl⟩
        have hyl : ys.length = len + 1 := by rw [hys]; simp; omega
        obtain ⟨g', hg', hBg, cu, hcu, hcel⟩ := own_cells1 o1 (by omega)
        cases hg'
        obtain ⟨g'', hg'', hBg3, cu3, hcu3, hcel3⟩ := own_cells1 o2 (by omega)
        cases hg''
        have cl : wr.cell? ⟨g, k, none⟩ = some (.bool lv) := by rw [hcel k hlt, List.getElem?_map, hys, jB_at FF LL k (by omega) (by omega), hlv]; rfl
        have cr : wr.cell? ⟨g3, k, none⟩ = some (.bool rv) := by rw [hcel3 k hlt, List.getElem?_map, List.getElem?_eq_getElem (by omega), hrv, List.getD_eq_getElem?_getD, List.getElem?_eq_getElem (by omega)]; rfl
        have fl : wr.frozen? ⟨g, k, none⟩ = false := Lib.frozen_of_heap hcu _
        have HNX : Hid (∀ b, b = (lv && rv) → ∃ zs : List Bool, (wr.setCell ⟨g, k, none⟩ (.bool b)).ownsRow (H + 1) 4 1 (.slice (some ⟨g, 0, none⟩) (len + 1) c) (len + 1) (zs.map Value.bool) ∧ zs = FF.take (k + 1) ++ LL.drop (k + 1) ∧ (wr.setCell ⟨g, k, none⟩ (.bool b)).ownsRow (H + 1) 4 1 (.slice (some ⟨g3, 0, none⟩) (len + 1) c3) (len + 1) (RR.map Value.bool) ∧ Below H w (wr.setCell ⟨g, k, none⟩ (.bool b))) := by
          intro b hb
          have hne := HNE.out
          refine ⟨ys.set k b, ?_, ?_, ?_, hbl.setCell (p := ⟨g, k, none⟩) (by show H ≤ g; omega) _⟩
          · rw [List.map_set]; exact own_set1 o1 k _
          · rw [hys, hb, hlv, hrv, ← HFG.out k (by omega)]
            exact jB_set FF LL k (by omega) (by omega)
          · exact own_same o2 (fun y hy => Below.heap_setCell _ _ _ _ (fun e => by injection hy with hy; exact hne ((show g3 = g from (show g3 = y from hy).trans (show y = g from e)).symm)))
        have hk0 : (k : Int) < (len : Int) + 1 := by omega
        clear o1 o2 hys hbl hyl hcu hcel hcu3 hcel3 hn hlv hrv hBg hBg3
        cases lv
        all_goals
          go_wp2
          go_roundw
          case rel => exact ⟨k + 1, by omega, by go_num, by simpa using HNX.out _ rfl⟩
          case measure => simp [intOf]; omega
      · obtain rfl : k = len + 1 := by omega
        have HFIN : Hid (RowPost FF w (.returned (.slice (some ⟨g, 0, none⟩) (len + 1) c)) wr) := by
          refine ⟨_, rfl, ?_, by rw [← HS0.out.2]; exact hbl⟩
          rw [hys, List.take_of_length_le (by omega), List.drop_of_length_le (by omega), List.append_nil] at o1
          rw [hn.2.2]
          exact own_base o1 (by have := HS0.out.2; omega)
        clear o1 o2 hys hbl hn
        go_wp2
        go_ret
        exact HFIN.out
end Go.Proofs.Ytjbhfonokgkalaa
