/- The walk of Count. -/
import Derived.Test.YtjbhfonokgkalaaNfaJ
namespace Go.Proofs.Ytjbhfonokgkalaa
open Go.RowKit
set_option linter.unusedVariables false
set_option linter.unusedSimpArgs false

/-! How deep. -/
theorem deepF_fold : (f : Fo) → (m : Nat) → (toL f).foldl (fun m x => max m x.deep) m = max m (deepF f)
  | .nil, m => by simp [toL, deepF]
  | .node _ _ a k r, m => by
    simp only [toL, List.foldl_cons, deepF_fold r, deepF]
    show max (max m (deepF k + 1)) (deepF r) = _
    omega
theorem deep_eq (n : Nd) : n.deep = (toL n.kids).foldl (fun m x => max m x.deep) 0 + 1 := by
  rw [deepF_fold]; simp [Nd.deep]
theorem deepF_le : (f : Fo) → deepF f ≤ cntF f
  | .nil => Nat.le_refl _
  | .node _ _ a k r => by
    have h1 := deepF_le k
    have h2 := deepF_le r
    simp only [deepF, cntF]
    omega
theorem deep_le (n : Nd) : n.deep ≤ n.cnt := by
  have := deepF_le n.kids
  unfold Nd.deep Nd.cnt
  omega
theorem deep_kid (n : Nd) (x : Nd) (h : x ∈ toL n.kids) : x.deep + 1 ≤ n.deep := by
  have := deep_mem n.kids x h
  unfold Nd.deep at this ⊢
  omega
theorem okN_deep : (d : Nat) → (n : Nd) → okN d n = true → (e : Nat) → n.deep ≤ e → okN e n = true
  | 0, _, h, _, _ => by simp [okN] at h
  | d + 1, n, h, 0, he => by simp [Nd.deep] at he
  | d + 1, n, h, e + 1, he => by
    simp only [okN, Bool.and_eq_true, List.all_eq_true] at h ⊢
    refine ⟨h.1, fun x hx => okN_deep d x (h.2 x hx) e ?_⟩
    have := deep_kid n x hx
    omega

/-- What Count tells of what is not too large. -/
def CoC (D : Nat) : Prop := ∀ (n : Nd) (ca pa : Option Addr) (cc pc : Nat) (B : Nat) (w : World), InV B w D n [.int .i64 n.op, .slice ca n.cl.length cc, .slice pa (toL n.kids).length pc] → n.cnt ≤ 400 →
  Calls Try.prog 47 #[.agg #[.int .i64 n.op, .slice ca n.cl.length cc, .slice pa (toL n.kids).length pc]] w fun e w' => e = .returned (nI n.cnt) ∧ Below w.heap.size w w'
set_option maxHeartbeats 8000000 in
theorem count_up (d : Nat) (HP : CoC d) : CoC (d + 1) := by
  intro n ca pa cc pc B w hin hcnt
  have HPC : Hid (CoC d) := HP
  have HIN : Hid (InV B w (d + 1) n [.int .i64 n.op, .slice ca n.cl.length cc, .slice pa (toL n.kids).length pc]) := hin
  have hb := hin.bounds
  obtain ⟨op, hop⟩ : ∃ op, op = n.op := ⟨_, rfl⟩
  obtain ⟨cn, hcn⟩ : ∃ cn, cn = n.cl.length := ⟨_, rfl⟩
  obtain ⟨kl, hkl⟩ : ∃ kl, kl = toL n.kids := ⟨_, rfl⟩
  obtain ⟨K, hK⟩ : ∃ K, K = kl.length := ⟨_, rfl⟩
  have hce := cnt_eq n
  rw [← hkl] at hce
  have HC : Hid (n.cnt = 1 + cntL kl ∧ n.cnt ≤ 400 ∧ kl = toL n.kids ∧ K = kl.length) := ⟨hce, hcnt, hkl, hK⟩
  have hKi : (K : Int) ≤ 2600000000000 := by rw [hkl] at hK; omega
  obtain ⟨wA, hwA⟩ : ∃ wA, wA = w.alloc (.cells #[.int .i64 op, .slice ca cn cc, .slice pa K pc] 33) := ⟨_, rfl⟩
  obtain ⟨H, hH⟩ : ∃ H, H = w.heap.size := ⟨_, rfl⟩
  have HB : Hid (Below w.heap.size w wA) := by rw [hwA]; exact (Below.refl _ w).alloc (Nat.le_refl _) _
  have HBX : Hid (wA.heap[H]? = some (.cells #[.int .i64 op, .slice ca cn cc, .slice pa K pc] 33)) := by rw [hwA, hH]; exact heap_alloc_new w _
  rw [← hop, ← hcn, ← hkl, ← hK]
  clear HP hin hb hop hcn hK hkl hce hcnt
  unfold nI
  go_enter Try.func47, Try.ntmps47
  go_upto_region 1 with fail
  rw [← hH, ← hwA]
  clear hH hwA
  go_wp2
  go_loopw [3, 4] (fun x3 x4 wr => ∃ k : Nat, k ≤ K ∧ x4 = .int .i64 k ∧ x3 = .int .i64 ((1 + cntL (kl.take k) : Nat) : Int) ∧ Below wA.heap.size wA wr) (fun _ x4 _ => K - (intOf x4).toNat)
  case atStart => exact ⟨0, by omega, rfl, by simp [cntL], Below.refl _ _⟩
  case round =>
    obtain ⟨k, hk, hx4, hx3, hbl⟩ := hrel
    obtain ⟨m, hm⟩ : ∃ m, m = 1 + cntL (kl.take k) := ⟨_, rfl⟩
    rw [← hm] at hx3
    subst hx4
    subst hx3
    have HBL : Hid (Below wA.heap.size wA wr) := hbl
    have d2 : wr.cell? ⟨H, 2, none⟩ = some (.slice pa K pc) := cell_of_row wr H 2 _ _ _ ((hbl.block H (Array.getElem?_eq_some_iff.1 HBX.out).1).trans HBX.out)
    have HBW : Hid (Below w.heap.size w wr) := HB.out.trans (hbl.mono HB.out.size)
    clear hbl
    by_cases hlt : k < K
    · have hkn : k < kl.length := by rw [← HC.out.2.2.2]; exact hlt
      have hkn' : k < (toL n.kids).length := by rw [← HC.out.2.2.1]; exact hkn
      obtain ⟨b, off, xa, xc, ya, yc, d', hpa, hkid, hd', c0, c1, c2⟩ := (HIN.out.later HBW.out (d + 1)).kid k hkn'
      obtain rfl : d' = d := by omega
      subst hpa
      obtain ⟨x, hx⟩ : ∃ x, x = (toL n.kids)[k] := ⟨_, rfl⟩
      have hxk : x = kl[k] := by rw [hx]; simp only [HC.out.2.2.1]
      rw [← hx] at hkid c0 c1 c2
      have htk := cntL_take kl k hkn
      rw [← hxk] at htk
      obtain ⟨v, hv⟩ : ∃ v, v = x.cnt := ⟨_, rfl⟩
      have hb2 := HC.out
      have HCC : Hid (Calls Try.prog 47 #[.agg #[.int .i64 x.op, .slice xa x.cl.length xc, .slice ya (toL x.kids).length yc]] wr fun e w' => e = .returned (nI v) ∧ Below wr.heap.size wr w') := by
        rw [hv]
        exact HPC.out x xa ya xc yc B wr hkid (by omega)
      have HNX : Hid (m + v = 1 + cntL (kl.take (k + 1))) := by
        show _ = _
        rw [take_snoc kl k hkn, cntL_snoc, ← hxk, hm, hv]
        omega
      have hmv : (m : Int) + (v : Int) ≤ 400 := by omega
      have hm4 : (m : Int) ≤ 400 := by omega
      obtain ⟨xo, hxo⟩ : ∃ xo, xo = x.op := ⟨_, rfl⟩
      obtain ⟨xn, hxn⟩ : ∃ xn, xn = x.cl.length := ⟨_, rfl⟩
      obtain ⟨xk, hxk2⟩ : ∃ xk, xk = (toL x.kids).length := ⟨_, rfl⟩
      rw [← hxo] at c0 HCC
      rw [← hxn] at c1 HCC
      rw [← hxk2] at c2 HCC
      have hki : (k : Int) < (K : Int) := by omega
      clear hkid hv hxo hxn hxk2 hm hx hxk htk hb2
      go_wp2_with fail
      refine HCC.out.mono ?_
      rintro e w2 ⟨rfl, hb2⟩
      have HB2 : Hid (Below wA.heap.size wA w2) := HBL.out.trans (hb2.mono HBL.out.size)
      clear hb2 c0 c1 c2 d2 HCC
      unfold nI
      go_wp2
      go_roundw
      case rel => exact ⟨k + 1, by omega, by go_num, by rw [← HNX.out]; go_num, HB2.out⟩
      case measure => simp [intOf]; omega
    · obtain rfl : k = K := by omega
      have HR : Hid (m = n.cnt) := by
        show _ = _
        rw [hm, HC.out.1, List.take_of_length_le (by rw [← HC.out.2.2.2]; exact Nat.le_refl _)]
      clear hm
      go_wp2
      go_ret
      exact ⟨by rw [← HR.out]; rfl, HBW.out⟩
theorem count_any : (d : Nat) → CoC d
  | 0 => fun _ _ _ _ _ _ _ h => h.elim
  | d + 1 => count_up d (count_any d)
end Go.Proofs.Ytjbhfonokgkalaa
