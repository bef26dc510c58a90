/- The walk of the statements' function has: whether a class stands anywhere in an expression. -/
import Derived.Test.YtjbhfonokgkalaaReaMa
namespace Go.Proofs.Ytjbhfonokgkalaa
open Go.RowKit
set_option linter.unusedVariables false
set_option linter.unusedSimpArgs false

theorem InV.classes {B : Nat} {w : World} {d : Nat} {n : Nd} {ca pa : Option Addr} {cn cc kn pc : Nat} {op : Int} (h : InV B w d n [.int .i64 op, .slice ca cn cc, .slice pa kn pc]) : Rd .i64 w ca n.cl.length n.cl ∧ n.cl.length ≤ 140737488355328 := by
  cases d with
  | zero => exact h.elim
  | succ d =>
    obtain ⟨ca', cc', pa', pc', hv, h2, _, h4, _, _⟩ := h
    simp only [List.cons.injEq, Value.slice.injEq] at hv
    rw [hv.2.1.1]
    exact ⟨h2, h4⟩
/-- What has tells, of what is no deeper than that. -/
def HsC (d : Nat) : Prop := ∀ (n : Nd) (s : Int) (ca pa : Option Addr) (cc pc : Nat) (B : Nat) (w : World), InV B w d n [.int .i64 n.op, .slice ca n.cl.length cc, .slice pa (toL n.kids).length pc] →
  Calls Try.prog 18 #[.agg #[.int .i64 n.op, .slice ca n.cl.length cc, .slice pa (toL n.kids).length pc], .int .i64 s] w fun e w' => e = .returned (.bool (n.has s)) ∧ Below w.heap.size w w'
theorem has_yes (s : Int) (n : Nd) (k : Nat) (hk : k < n.cl.length) (h : n.cl[k] = s) : n.has s = true := by
  unfold Nd.has
  rw [show decide (s ∈ n.cl) = true by rw [decide_eq_true_eq, ← h]; exact List.getElem_mem hk]
  rfl
theorem has_kid (s : Int) (n : Nd) (k : Nat) (hk : k < (toL n.kids).length) (h : (toL n.kids)[k].has s = true) : n.has s = true := by
  unfold Nd.has
  rw [hasF_toL, show (toL n.kids).any (Nd.has s) = true by rw [List.any_eq_true]; exact ⟨_, List.getElem_mem hk, h⟩]
  simp
theorem has_no (s : Int) (n : Nd) (h1 : ∀ j (hj : j < n.cl.length), ¬ n.cl[j] = s) (h2 : ∀ j (hj : j < (toL n.kids).length), (toL n.kids)[j].has s = false) : n.has s = false := by
  unfold Nd.has
  rw [hasF_toL, show (toL n.kids).any (Nd.has s) = false by
    rw [List.any_eq_false]; intro x hx; obtain ⟨j, hj, rfl⟩ := List.mem_iff_getElem.1 hx; rw [h2 j hj]; simp]
  rw [show decide (s ∈ n.cl) = false by
    rw [decide_eq_false_iff_not]; intro hx; obtain ⟨j, hj, e⟩ := List.mem_iff_getElem.1 hx; exact h1 j hj e]
  rfl

set_option maxHeartbeats 8000000 in
theorem has_up (d : Nat) (HP : HsC d) : HsC (d + 1) := by
  intro n s ca pa cc pc B w hin
  have HPC : Hid (HsC d) := HP
  have HIN : Hid (InV B w (d + 1) n [.int .i64 n.op, .slice ca n.cl.length cc, .slice pa (toL n.kids).length pc]) := hin
  have hb := hin.bounds
  have hcb := hin.classes.2
  obtain ⟨op, hop⟩ : ∃ op, op = n.op := ⟨_, rfl⟩
  obtain ⟨cn, hcn⟩ : ∃ cn, cn = n.cl.length := ⟨_, rfl⟩
  obtain ⟨K, hK⟩ : ∃ K, K = (toL n.kids).length := ⟨_, rfl⟩
  obtain ⟨res, hres⟩ : ∃ res, res = n.has s := ⟨_, rfl⟩
  have HRES : Hid (res = n.has s) := hres
  rw [← hop, ← hcn, ← hK, ← hres]
  have HK : Hid (K = (toL n.kids).length ∧ cn = n.cl.length) := ⟨hK, hcn⟩
  have hKi : (K : Int) ≤ 2600000000000 := by omega
  have hci : (cn : Int) ≤ 140737488355328 := by omega
  obtain ⟨wA, hwA⟩ : ∃ wA, wA = w.alloc (.cells #[.int .i64 op, .slice ca cn cc, .slice pa K pc] 33) := ⟨_, rfl⟩
  obtain ⟨H, hH⟩ : ∃ H, H = w.heap.size := ⟨_, rfl⟩
  have HB : Hid (Below w.heap.size w wA) := by rw [hwA]; exact (Below.refl _ w).alloc (Nat.le_refl _) _
  have hbx : wA.heap[H]? = some (.cells #[.int .i64 op, .slice ca cn cc, .slice pa K pc] 33) := by rw [hwA, hH]; exact heap_alloc_new w _
  have HS : Hid (wA.heap.size = H + 1 ∧ H = w.heap.size) := ⟨by rw [hwA, hH]; simp, hH⟩
  have HBX : Hid (wA.heap[H]? = some (.cells #[.int .i64 op, .slice ca cn cc, .slice pa K pc] 33)) := hbx
  clear HP hin hb hcb hop hcn hK hres hbx
  go_enter Try.func18, Try.ntmps18
  go_upto_region 1 with fail
  rw [← hH, ← hwA]
  clear hH hwA
  go_wp2
  go_loopw [5] (fun x5 wr => ∃ k : Nat, k ≤ cn ∧ x5 = .int .i64 k ∧ (∀ j (hj : j < n.cl.length), j < k → ¬ n.cl[j] = s) ∧ Below wA.heap.size wA wr) (fun x5 _ => cn - (intOf x5).toNat)
  case atStart => exact ⟨0, by omega, rfl, fun j _ hj => absurd hj (by omega), Below.refl _ _⟩
  case round =>
    obtain ⟨k, hk, hx5, hat, hbl⟩ := hrel
    subst hx5
    have HA : Hid (∀ j (hj : j < n.cl.length), j < k → ¬ n.cl[j] = s) := hat
    have HBL : Hid (Below wA.heap.size wA wr) := hbl
    have hs0 := HS.out
    have d1 : wr.cell? ⟨H, 1, none⟩ = some (.slice ca cn cc) := (cell_of_row wr H 1 _ _ _ ((hbl.block H (by omega)).trans HBX.out)).trans (by simp)
    have HBW : Hid (Below w.heap.size w wr) := HB.out.trans (hbl.mono HB.out.size)
    clear hbl hs0 hat
    by_cases hlt : k < cn
    · have hkn : k < n.cl.length := by rw [← HK.out.2]; exact hlt
      obtain ⟨b, off, rfl, hcl⟩ := (HIN.out.later HBW.out (d + 1)).classes.1.2 (by omega)
      have hcc := hcl k hkn
      obtain ⟨x, hx⟩ : ∃ x, x = n.cl.getD k 0 := ⟨_, rfl⟩
      have HX : Hid (x = n.cl[k]) := by show x = n.cl[k]; rw [hx]; simp [hkn]
      rw [← hx] at hcc
      clear hcl hx
      by_cases he : x = s
      · have hr : res = true := HRES.out.trans (has_yes s n k hkn (by rw [← HX.out]; exact he))
        subst hr
        subst he
        go_wp2
        go_ret
        exact ⟨rfl, HBW.out⟩
      · have hef : (x == s) = false := by rw [beq_eq_false_iff_ne]; exact he
        have HE : Hid (¬ x = s) := he
        clear he
        go_wp2
        go_roundw
        case rel =>
          refine ⟨k + 1, by omega, by go_num, fun j hj hj2 => ?_, HBL.out⟩
          rcases Nat.lt_or_ge j k with h | h
          · exact HA.out j hj h
          · obtain rfl : j = k := by omega
            rw [← HX.out]; exact HE.out
        case measure => simp [intOf]; omega
    · obtain rfl : k = cn := by omega
      go_wp2
      clear d1
      go_loopw [6] (fun x6 wr => ∃ k : Nat, k ≤ K ∧ x6 = .int .i64 k ∧ (∀ j (hj : j < (toL n.kids).length), j < k → (toL n.kids)[j].has s = false) ∧ Below wA.heap.size wA wr) (fun x6 _ => K - (intOf x6).toNat)
      case atStart => exact ⟨0, by omega, rfl, fun j _ hj => absurd hj (by omega), HBL.out⟩
      case round =>
        obtain ⟨i, hi, hx6, hat2, hbl2⟩ := hrel
        subst hx6
        have HA2 : Hid (∀ j (hj : j < (toL n.kids).length), j < i → (toL n.kids)[j].has s = false) := hat2
        have HBL2 : Hid (Below wA.heap.size wA wr) := hbl2
        have hs0 := HS.out
        have d2 : wr.cell? ⟨H, 2, none⟩ = some (.slice pa K pc) := (cell_of_row wr H 2 _ _ _ ((hbl2.block H (by omega)).trans HBX.out)).trans (by simp)
        have HBW2 : Hid (Below w.heap.size w wr) := HB.out.trans (hbl2.mono HB.out.size)
        clear hbl2 hs0 hat2
        by_cases hlt2 : i < K
        · have hkn : i < (toL n.kids).length := by rw [← HK.out.1]; exact hlt2
          obtain ⟨b, off, xa, xc, ya, yc, d', rfl, hkid, hd', c0, c1, c2⟩ := (HIN.out.later HBW2.out (d + 1)).kid i hkn
          obtain rfl : d' = d := by omega
          obtain ⟨v, hv⟩ : ∃ v, v = (toL n.kids)[i].has s := ⟨_, rfl⟩
          have HVV : Hid (v = (toL n.kids)[i].has s) := hv
          have HC : Hid (Calls Try.prog 18 #[.agg #[.int .i64 (toL n.kids)[i].op, .slice xa (toL n.kids)[i].cl.length xc, .slice ya (toL (toL n.kids)[i].kids).length yc], .int .i64 s] wr fun e w' => e = .returned (.bool v) ∧ Below wr.heap.size wr w') := by
            rw [hv]
            exact HPC.out (toL n.kids)[i] s xa ya xc yc B wr hkid
          obtain ⟨xo, hxo⟩ : ∃ xo, xo = (toL n.kids)[i].op := ⟨_, rfl⟩
          obtain ⟨xn, hxn⟩ : ∃ xn, xn = (toL n.kids)[i].cl.length := ⟨_, rfl⟩
          obtain ⟨xk, hxk⟩ : ∃ xk, xk = (toL (toL n.kids)[i].kids).length := ⟨_, rfl⟩
          rw [← hxo] at c0 HC
          rw [← hxn] at c1 HC
          rw [← hxk] at c2 HC
          clear hkid hv hxo hxn hxk
          go_wp2_with fail
          refine HC.out.mono ?_
          rintro e w2 ⟨rfl, hb2⟩
          have HB2 : Hid (Below wA.heap.size wA w2) := HBL2.out.trans (hb2.mono HBL2.out.size)
          have HW2 : Hid (Below w.heap.size w w2) := HBW2.out.trans (hb2.mono HBW2.out.size)
          clear hb2 c0 c1 c2 d2 HC
          cases v with
          | true =>
            have hr : res = true := HRES.out.trans (has_kid s n i hkn HVV.out.symm)
            subst hr
            go_wp2
            go_ret
            exact ⟨rfl, HW2.out⟩
          | false =>
            go_wp2
            go_roundw
            case rel =>
              refine ⟨i + 1, by omega, by go_num, fun j hj hj2 => ?_, HB2.out⟩
              rcases Nat.lt_or_ge j i with h | h
              · exact HA2.out j hj h
              · obtain rfl : j = i := by omega
                exact HVV.out.symm
            case measure => simp [intOf]; omega
        · obtain rfl : i = K := by omega
          have hr : res = false := HRES.out.trans (has_no s n (fun j hj => HA.out j hj (by rw [HK.out.2]; exact hj)) (fun j hj => HA2.out j hj (by rw [HK.out.1]; exact hj)))
          subst hr
          go_wp2
          go_ret
          exact ⟨rfl, HBW2.out⟩
theorem has_any : (d : Nat) → HsC d
  | 0 => fun _ _ _ _ _ _ _ _ h => h.elim
  | d + 1 => has_up d (has_any d)
end Go.Proofs.Ytjbhfonokgkalaa
