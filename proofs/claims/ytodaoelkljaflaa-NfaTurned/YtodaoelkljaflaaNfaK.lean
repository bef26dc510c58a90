/- The walks of Count, depth and small; expressions put together: in memory, whether they are right, what they fit. -/
import Derived.Test.YtodaoelkljaflaaNfaJ
namespace Go.Proofs.Ytodaoelkljaflaa
open Go.RowKit
set_option linter.unusedVariables false
set_option linter.unusedSimpArgs false

/-! How deep. -/
theorem deepF_fold : (f : Fo) → (m : Nat) → (toL f).foldl (fun m x => max m x.deep) m = max m (deepF f)
  | .nil, m => by simp [toL, deepF]
  | .node _ _ a k r, m => by
    simp only [toL, List.foldl_cons, deepF_fold r, deepF]
    show max (max m (deepF k + 1)) (deepF r) = _
    omega
theorem deep_eq (n : Nd) : n.deep = (toL n.kids).foldl (fun m x => max m x.deep) 0 + 1 := by
  rw [deepF_fold]; simp [Nd.deep]
theorem deepF_le : (f : Fo) → deepF f ≤ cntF f
  | .nil => Nat.le_refl _
  | .node _ _ a k r => by
    have h1 := deepF_le k
    have h2 := deepF_le r
    simp only [deepF, cntF]
    omega
theorem deep_le (n : Nd) : n.deep ≤ n.cnt := by
  have := deepF_le n.kids
  unfold Nd.deep Nd.cnt
  omega
theorem deep_kid (n : Nd) (x : Nd) (h : x ∈ toL n.kids) : x.deep + 1 ≤ n.deep := by
  have := deep_mem n.kids x h
  unfold Nd.deep at this ⊢
  omega
theorem okN_deep : (d : Nat) → (n : Nd) → okN d n = true → (e : Nat) → n.deep ≤ e → okN e n = true
  | 0, _, h, _, _ => by simp [okN] at h
  | d + 1, n, h, 0, he => by simp [Nd.deep] at he
  | d + 1, n, h, e + 1, he => by
    simp only [okN, Bool.and_eq_true, List.all_eq_true] at h ⊢
    refine ⟨h.1, fun x hx => okN_deep d x (h.2 x hx) e ?_⟩
    have := deep_kid n x hx
    omega

/-- What Count tells of what is not too large. -/
def CoC (D : Nat) : Prop := ∀ (n : Nd) (ca pa : Option Addr) (cc pc : Nat) (B : Nat) (w : World), InV B w D n [.int .i64 n.op, .slice ca n.cl.length cc, .slice pa (toL n.kids).length pc] → n.cnt ≤ 400 →
  Calls Try.prog 28 #[.agg #[.int .i64 n.op, .slice ca n.cl.length cc, .slice pa (toL n.kids).length pc]] w fun e w' => e = .returned (nI n.cnt) ∧ Below w.heap.size w w'
set_option maxHeartbeats 8000000 in
theorem count_up (d : Nat) (HP : CoC d) : CoC (d + 1) := by
  intro n ca pa cc pc B w hin hcnt
  have HPC : Hid (CoC d) := HP
  have HIN : Hid (InV B w (d + 1) n [.int .i64 n.op, .slice ca n.cl.length cc, .slice pa (toL n.kids).length pc]) := hin
  have hb := hin.bounds
  obtain ⟨op, hop⟩ : ∃ op, op = n.op := ⟨_, rfl⟩
  obtain ⟨cn, hcn⟩ : ∃ cn, cn = n.cl.length := ⟨_, rfl⟩
  obtain ⟨kl, hkl⟩ : ∃ kl, kl = toL n.kids := ⟨_, rfl⟩
  obtain ⟨K, hK⟩ : ∃ K, K = kl.length := ⟨_, rfl⟩
  have hce := cnt_eq n
  rw [← hkl] at hce
  have HC : Hid (n.cnt = 1 + cntL kl ∧ n.cnt ≤ 400 ∧ kl = toL n.kids ∧ K = kl.length) := ⟨hce, hcnt, hkl, hK⟩
  have hKi : (K : Int) ≤ 2600000000000 := by rw [hkl] at hK; omega
  obtain ⟨wA, hwA⟩ : ∃ wA, wA = w.alloc (.cells #[.int .i64 op, .slice ca cn cc, .slice pa K pc] 25) := ⟨_, rfl⟩
  obtain ⟨H, hH⟩ : ∃ H, H = w.heap.size := ⟨_, rfl⟩
  have HB : Hid (Below w.heap.size w wA) := by rw [hwA]; exact (Below.refl _ w).alloc (Nat.le_refl _) _
  have HBX : Hid (wA.heap[H]? = some (.cells #[.int .i64 op, .slice ca cn cc, .slice pa K pc] 25)) := by rw [hwA, hH]; exact heap_alloc_new w _
  rw [← hop, ← hcn, ← hkl, ← hK]
  clear HP hin hb hop hcn hK hkl hce hcnt
  unfold nI
  go_enter Try.func28, Try.ntmps28
  go_upto_region 1 with fail
  rw [← hH, ← hwA]
  clear hH hwA
  go_wp2
  go_loopw [3, 4] (fun x3 x4 wr => ∃ k : Nat, k ≤ K ∧ x4 = .int .i64 k ∧ x3 = .int .i64 ((1 + cntL (kl.take k) : Nat) : Int) ∧ Below wA.heap.size wA wr) (fun _ x4 _ => K - (intOf x4).toNat)
  case atStart => exact ⟨0, by omega, rfl, by simp [cntL], Below.refl _ _⟩
  case round =>
    obtain ⟨k, hk, hx4, hx3, hbl⟩ := hrel
    obtain ⟨m, hm⟩ : ∃ m, m = 1 + cntL (kl.take k) := ⟨_, rfl⟩
    rw [← hm] at hx3
    subst hx4
    subst hx3
    have HBL : Hid (Below wA.heap.size wA wr) := hbl
    have d2 : wr.cell? ⟨H, 2, none⟩ = some (.slice pa K pc) := cell_of_row wr H 2 _ _ _ ((hbl.block H (Array.getElem?_eq_some_iff.1 HBX.out).1).trans HBX.out)
    have HBW : Hid (Below w.heap.size w wr) := HB.out.trans (hbl.mono HB.out.size)
    clear hbl
    by_cases hlt : k < K
    · have hkn : k < kl.length := by rw [← HC.out.2.2.2]; exact hlt
      have hkn' : k < (toL n.kids).length := by rw [← HC.out.2.2.1]; exact hkn
      obtain ⟨b, off, xa, xc, ya, yc, d', hpa, hkid, hd', c0, c1, c2⟩ := (HIN.out.later HBW.out (d + 1)).kid k hkn'
      obtain rfl : d' = d := by omega
      subst hpa
      obtain ⟨x, hx⟩ : ∃ x, x = (toL n.kids)[k] := ⟨_, rfl⟩
      have hxk : x = kl[k] := by rw [hx]; simp only [HC.out.2.2.1]
      rw [← hx] at hkid c0 c1 c2
      have htk := cntL_take kl k hkn
      rw [← hxk] at htk
      obtain ⟨v, hv⟩ : ∃ v, v = x.cnt := ⟨_, rfl⟩
      have hb2 := HC.out
      have HCC : Hid (Calls Try.prog 28 #[.agg #[.int .i64 x.op, .slice xa x.cl.length xc, .slice ya (toL x.kids).length yc]] wr fun e w' => e = .returned (nI v) ∧ Below wr.heap.size wr w') := by
        rw [hv]
        exact HPC.out x xa ya xc yc B wr hkid (by omega)
      have HNX : Hid (m + v = 1 + cntL (kl.take (k + 1))) := by
        show _ = _
        rw [take_snoc kl k hkn, cntL_snoc, ← hxk, hm, hv]
        omega
      have hmv : (m : Int) + (v : Int) ≤ 400 := by omega
      have hm4 : (m : Int) ≤ 400 := by omega
      obtain ⟨xo, hxo⟩ : ∃ xo, xo = x.op := ⟨_, rfl⟩
      obtain ⟨xn, hxn⟩ : ∃ xn, xn = x.cl.length := ⟨_, rfl⟩
      obtain ⟨xk, hxk2⟩ : ∃ xk, xk = (toL x.kids).length := ⟨_, rfl⟩
      rw [← hxo] at c0 HCC
      rw [← hxn] at c1 HCC
      rw [← hxk2] at c2 HCC
      have hki : (k : Int) < (K : Int) := by omega
      clear hkid hv hxo hxn hxk2 hm hx hxk htk hb2
      go_wp2_with fail
      refine HCC.out.mono ?_
      rintro e w2 ⟨rfl, hb2⟩
      have HB2 : Hid (Below wA.heap.size wA w2) := HBL.out.trans (hb2.mono HBL.out.size)
      clear hb2 c0 c1 c2 d2 HCC
      unfold nI
      go_wp2
      go_roundw
      case rel => exact ⟨k + 1, by omega, by go_num, by rw [← HNX.out]; go_num, HB2.out⟩
      case measure => simp [intOf]; omega
    · obtain rfl : k = K := by omega
      have HR : Hid (m = n.cnt) := by
        show _ = _
        rw [hm, HC.out.1, List.take_of_length_le (by rw [← HC.out.2.2.2]; exact Nat.le_refl _)]
      clear hm
      go_wp2
      go_ret
      exact ⟨by rw [← HR.out]; rfl, HBW.out⟩
theorem count_any : (d : Nat) → CoC d
  | 0 => fun _ _ _ _ _ _ _ h => h.elim
  | d + 1 => count_up d (count_any d)
/-- What depth tells of what is not too large. -/
def DeC (D : Nat) : Prop := ∀ (n : Nd) (ca pa : Option Addr) (cc pc : Nat) (B : Nat) (w : World), InV B w D n [.int .i64 n.op, .slice ca n.cl.length cc, .slice pa (toL n.kids).length pc] → n.deep ≤ 400 →
  Calls Try.prog 38 #[.agg #[.int .i64 n.op, .slice ca n.cl.length cc, .slice pa (toL n.kids).length pc]] w fun e w' => e = .returned (nI n.deep) ∧ Below w.heap.size w w'
def mxL (l : List Nd) : Nat := l.foldl (fun m x => max m x.deep) 0
theorem mxL_snoc (l : List Nd) (x : Nd) : mxL (l ++ [x]) = max (mxL l) x.deep := by simp [mxL, List.foldl_append]
theorem mxL_le : (l : List Nd) → (b : Nat) → (∀ x, x ∈ l → x.deep ≤ b) → (m : Nat) → m ≤ b → l.foldl (fun m x => max m x.deep) m ≤ b
  | [], b, _, m, h => h
  | y :: r, b, hf, m, h => by
    simp only [List.foldl_cons]
    refine mxL_le r b (fun x hx => hf x (by simp [hx])) _ ?_
    have := hf y (by simp)
    omega
set_option maxHeartbeats 8000000 in
theorem depth_up (d : Nat) (HP : DeC d) : DeC (d + 1) := by
  intro n ca pa cc pc B w hin hdp
  have HPC : Hid (DeC d) := HP
  have HIN : Hid (InV B w (d + 1) n [.int .i64 n.op, .slice ca n.cl.length cc, .slice pa (toL n.kids).length pc]) := hin
  have hb := hin.bounds
  obtain ⟨op, hop⟩ : ∃ op, op = n.op := ⟨_, rfl⟩
  obtain ⟨cn, hcn⟩ : ∃ cn, cn = n.cl.length := ⟨_, rfl⟩
  obtain ⟨kl, hkl⟩ : ∃ kl, kl = toL n.kids := ⟨_, rfl⟩
  obtain ⟨K, hK⟩ : ∃ K, K = kl.length := ⟨_, rfl⟩
  have HC : Hid (n.deep = mxL kl + 1 ∧ (∀ x, x ∈ kl → x.deep + 1 ≤ n.deep) ∧ n.deep ≤ 400 ∧ kl = toL n.kids ∧ K = kl.length) := ⟨by rw [hkl]; exact deep_eq n, fun x hx => deep_kid n x (by rw [← hkl]; exact hx), hdp, hkl, hK⟩
  have hKi : (K : Int) ≤ 2600000000000 := by rw [hkl] at hK; omega
  obtain ⟨wA, hwA⟩ : ∃ wA, wA = w.alloc (.cells #[.int .i64 op, .slice ca cn cc, .slice pa K pc] 25) := ⟨_, rfl⟩
  obtain ⟨H, hH⟩ : ∃ H, H = w.heap.size := ⟨_, rfl⟩
  have HB : Hid (Below w.heap.size w wA) := by rw [hwA]; exact (Below.refl _ w).alloc (Nat.le_refl _) _
  have HBX : Hid (wA.heap[H]? = some (.cells #[.int .i64 op, .slice ca cn cc, .slice pa K pc] 25)) := by rw [hwA, hH]; exact heap_alloc_new w _
  rw [← hop, ← hcn, ← hkl, ← hK]
  clear HP hin hb hop hcn hK hkl hdp
  unfold nI
  go_enter Try.func38, Try.ntmps38
  go_upto_region 1 with fail
  rw [← hH, ← hwA]
  clear hH hwA
  go_wp2
  go_loopw [3, 4] (fun x3 x4 wr => ∃ k : Nat, k ≤ K ∧ x4 = .int .i64 k ∧ x3 = .int .i64 ((mxL (kl.take k) : Nat) : Int) ∧ Below wA.heap.size wA wr) (fun _ x4 _ => K - (intOf x4).toNat)
  case atStart => exact ⟨0, by omega, rfl, by simp [mxL], Below.refl _ _⟩
  case round =>
    obtain ⟨k, hk, hx4, hx3, hbl⟩ := hrel
    obtain ⟨m, hm⟩ : ∃ m, m = mxL (kl.take k) := ⟨_, rfl⟩
    rw [← hm] at hx3
    subst hx4
    subst hx3
    have HBL : Hid (Below wA.heap.size wA wr) := hbl
    have d2 : wr.cell? ⟨H, 2, none⟩ = some (.slice pa K pc) := cell_of_row wr H 2 _ _ _ ((hbl.block H (Array.getElem?_eq_some_iff.1 HBX.out).1).trans HBX.out)
    have HBW : Hid (Below w.heap.size w wr) := HB.out.trans (hbl.mono HB.out.size)
    have hmb : m ≤ 400 := by
      rw [hm]
      exact mxL_le (kl.take k) 400 (fun x hx => by have := HC.out.2.1 x (List.mem_of_mem_take hx); have := HC.out.2.2.1; omega) 0 (by omega)
    have hmi : (m : Int) ≤ 400 := by omega
    clear hbl
    by_cases hlt : k < K
    · have hkn : k < kl.length := by rw [← HC.out.2.2.2.2]; exact hlt
      have hkn' : k < (toL n.kids).length := by rw [← HC.out.2.2.2.1]; exact hkn
      obtain ⟨b, off, xa, xc, ya, yc, d', hpa, hkid, hd', c0, c1, c2⟩ := (HIN.out.later HBW.out (d + 1)).kid k hkn'
      obtain rfl : d' = d := by omega
      subst hpa
      obtain ⟨x, hx⟩ : ∃ x, x = (toL n.kids)[k] := ⟨_, rfl⟩
      have hxk : x = kl[k] := by rw [hx]; simp only [HC.out.2.2.2.1]
      rw [← hx] at hkid c0 c1 c2
      have hxd := HC.out.2.1 x (by rw [hxk]; exact List.getElem_mem hkn)
      obtain ⟨v, hv⟩ : ∃ v, v = x.deep := ⟨_, rfl⟩
      have hb2 := HC.out.2.2.1
      have HCC : Hid (Calls Try.prog 38 #[.agg #[.int .i64 x.op, .slice xa x.cl.length xc, .slice ya (toL x.kids).length yc]] wr fun e w' => e = .returned (nI v) ∧ Below wr.heap.size wr w') := by
        rw [hv]
        exact HPC.out x xa ya xc yc B wr hkid (by omega)
      have HNX : Hid (max m v = mxL (kl.take (k + 1))) := by
        show _ = _
        rw [take_snoc kl k hkn, mxL_snoc, ← hxk, hm, hv]
      have hmax : ∀ W : World, (Builtin.max_ #[3, 3] 3 #[.int .i64 (m : Int), .int .i64 (v : Int)]).run Try.prog W = .ok (.int .i64 ((max m v : Nat) : Int)) W := by
        intro W
        rw [maxR]
        congr 2
        omega
      obtain ⟨xo, hxo⟩ : ∃ xo, xo = x.op := ⟨_, rfl⟩
      obtain ⟨xn, hxn⟩ : ∃ xn, xn = x.cl.length := ⟨_, rfl⟩
      obtain ⟨xk, hxk2⟩ : ∃ xk, xk = (toL x.kids).length := ⟨_, rfl⟩
      rw [← hxo] at c0 HCC
      rw [← hxn] at c1 HCC
      rw [← hxk2] at c2 HCC
      clear hkid hv hxo hxn hxk2 hm hx hxk hb2 hxd
      go_wp2_with fail
      refine HCC.out.mono ?_
      rintro e w2 ⟨rfl, hb2⟩
      have HB2 : Hid (Below wA.heap.size wA w2) := HBL.out.trans (hb2.mono HBL.out.size)
      clear hb2 c0 c1 c2 d2 HCC
      unfold nI
      go_wp2
      go_roundw
      case rel => exact ⟨k + 1, by omega, by go_num, by rw [← HNX.out], HB2.out⟩
      case measure => simp [intOf]; omega
    · obtain rfl : k = K := by omega
      have HR : Hid (m + 1 = n.deep) := by
        show _ = _
        rw [hm, HC.out.1, List.take_of_length_le (by rw [← HC.out.2.2.2.2]; exact Nat.le_refl _)]
      clear hm
      go_wp2
      go_ret
      exact ⟨by rw [← HR.out]; exact ret_int (by push_cast; rfl), HBW.out⟩
theorem depth_any : (d : Nat) → DeC d
  | 0 => fun _ _ _ _ _ _ _ h => h.elim
  | d + 1 => depth_up d (depth_any d)
/-- Is an expression right, and small? -/
def Nd.small (n : Nd) : Bool := n.ok && decide (n.cnt ≤ 100) && decide (n.deep ≤ 20)
set_option maxHeartbeats 4000000 in
theorem small_any (D : Nat) (n : Nd) (ca pa : Option Addr) (cc pc : Nat) (w : World) (hin : InV w.heap.size w D n [.int .i64 n.op, .slice ca n.cl.length cc, .slice pa (toL n.kids).length pc]) :
    Calls Try.prog 25 #[.agg #[.int .i64 n.op, .slice ca n.cl.length cc, .slice pa (toL n.kids).length pc]] w fun e w' => e = .returned (.bool n.small) ∧ Below w.heap.size w w' := by
  obtain ⟨op, hop⟩ : ∃ op, op = n.op := ⟨_, rfl⟩
  obtain ⟨cn, hcn⟩ : ∃ cn, cn = n.cl.length := ⟨_, rfl⟩
  obtain ⟨K, hK⟩ : ∃ K, K = (toL n.kids).length := ⟨_, rfl⟩
  obtain ⟨W0, hW0⟩ : ∃ W0, W0 = w.alloc (.cells #[.int .i64 op, .slice ca cn cc, .slice pa K pc] 25) := ⟨_, rfl⟩
  obtain ⟨H, hH⟩ : ∃ H, H = w.heap.size := ⟨_, rfl⟩
  have HB0 : Hid (Below w.heap.size w W0) := by rw [hW0]; exact (Below.refl _ w).alloc (Nat.le_refl _) _
  have hax : W0.heap[H]? = some (.cells #[.int .i64 op, .slice ca cn cc, .slice pa K pc] 25) := by rw [hW0, hH]; exact heap_alloc_new w _
  have HAX : Hid (∀ V : World, Below W0.heap.size W0 V → V.cell? ⟨H, 0, none⟩ = some (.int .i64 op) ∧ V.cell? ⟨H, 1, none⟩ = some (.slice ca cn cc) ∧ V.cell? ⟨H, 2, none⟩ = some (.slice pa K pc)) := fun V hV =>
    ⟨upC hV (cell_of_row W0 H 0 _ _ _ hax), upC hV (cell_of_row W0 H 1 _ _ _ hax), upC hV (cell_of_row W0 H 2 _ _ _ hax)⟩
  have HR : Hid (Calls Try.prog 18 #[.agg #[.int .i64 op, .slice ca cn cc, .slice pa K pc]] W0 fun e w' => e = .returned (.bool n.ok) ∧ Below W0.heap.size W0 w') := by
    rw [hop, hcn, hK]
    exact right_any D n ca pa cc pc W0 ((hin.later HB0.out D).base HB0.out.size D)
  have HCT : Hid (∀ V : World, n.ok = true → Below w.heap.size w V → Calls Try.prog 28 #[.agg #[.int .i64 op, .slice ca cn cc, .slice pa K pc]] V fun e w' => e = .returned (nI n.cnt) ∧ Below V.heap.size V w') := by
    intro V hok hV
    rw [hop, hcn, hK]
    exact count_any D n ca pa cc pc _ V (hin.later hV D) (Nd.ok_right hok).2
  have HDP : Hid (∀ V : World, n.ok = true → Below w.heap.size w V → Calls Try.prog 38 #[.agg #[.int .i64 op, .slice ca cn cc, .slice pa K pc]] V fun e w' => e = .returned (nI n.deep) ∧ Below V.heap.size V w') := by
    intro V hok hV
    rw [hop, hcn, hK]
    exact depth_any D n ca pa cc pc _ V (hin.later hV D) (by have := (Nd.ok_right hok).2; have := deep_le n; omega)
  obtain ⟨e0, e1, e2⟩ := HAX.out W0 (Below.refl _ _)
  have hsm : n.small = (n.ok && decide (n.cnt ≤ 100) && decide (n.deep ≤ 20)) := rfl
  obtain ⟨R, hR⟩ : ∃ R, R = n.small := ⟨_, rfl⟩
  obtain ⟨ok, hok⟩ : ∃ ok, ok = n.ok := ⟨_, rfl⟩
  rw [← hR, ← hok] at hsm
  rw [← hop, ← hcn, ← hK, ← hR]
  have HOK : Hid (ok = n.ok) := hok
  rw [← hok] at HR
  clear hin hop hcn hK hax hR hok
  go_enter Try.func25, Try.ntmps25
  go_upto_region 1 with fail
  rw [← hH, ← hW0]
  clear hH hW0
  go_wp2_with fail
  refine HR.out.mono ?_
  rintro e w1 ⟨rfl, hb1⟩
  have HB1 : Hid (Below W0.heap.size W0 w1) := hb1
  have HW1 : Hid (Below w.heap.size w w1) := HB0.out.trans (hb1.mono HB0.out.size)
  clear hb1 HR e0 e1 e2
  cases ok with
  | false =>
    have hRf : R = false := by rw [hsm]; rfl
    subst hRf
    clear hsm
    go_wp2
    go_ret
    exact ⟨rfl, HW1.out⟩
  | true =>
    obtain ⟨e0, e1, e2⟩ := HAX.out w1 HB1.out
    obtain ⟨ct, hct⟩ : ∃ ct, ct = n.cnt := ⟨_, rfl⟩
    obtain ⟨dp, hdp⟩ : ∃ dp, dp = n.deep := ⟨_, rfl⟩
    rw [← hct, ← hdp] at hsm
    have HC1 := HCT.out w1 HOK.out.symm HW1.out
    rw [← hct] at HC1
    have HCC : Hid (Calls Try.prog 28 #[.agg #[.int .i64 op, .slice ca cn cc, .slice pa K pc]] w1 fun e w' => e = .returned (nI ct) ∧ Below w1.heap.size w1 w') := HC1
    rw [← hdp] at HDP
    clear hct hdp HC1 HCT
    go_wp2_with fail
    refine HCC.out.mono ?_
    rintro e w2 ⟨rfl, hb2⟩
    have HB2 : Hid (Below W0.heap.size W0 w2) := HB1.out.trans (hb2.mono HB1.out.size)
    have HW2 : Hid (Below w.heap.size w w2) := HW1.out.trans (hb2.mono HW1.out.size)
    clear hb2 HCC e0 e1 e2
    unfold nI
    by_cases hc1 : ct ≤ 100
    · have hc1i : (ct : Int) ≤ 100 := by omega
      obtain ⟨e0, e1, e2⟩ := HAX.out w2 HB2.out
      have HDD := HDP.out w2 HOK.out.symm HW2.out
      have HD : Hid (Calls Try.prog 38 #[.agg #[.int .i64 op, .slice ca cn cc, .slice pa K pc]] w2 fun e w' => e = .returned (nI dp) ∧ Below w2.heap.size w2 w') := HDD
      clear HDD HDP
      rw [decide_eq_true hc1] at hsm
      go_wp2_with fail
      refine HD.out.mono ?_
      rintro e w3 ⟨rfl, hb3⟩
      have HW3 : Hid (Below w.heap.size w w3) := HW2.out.trans (hb3.mono HW2.out.size)
      clear hb3 HD e0 e1 e2
      unfold nI
      by_cases hd1 : dp ≤ 20
      · have hd1i : (dp : Int) ≤ 20 := by omega
        have hRt : R = true := by rw [hsm, decide_eq_true hd1]; rfl
        subst hRt
        clear hsm
        go_wp2
        go_ret
        exact ⟨rfl, HW3.out⟩
      · have hdd : decide ((dp : Int) ≤ 20) = false := by simp; omega
        have hRf : R = false := by rw [hsm, decide_eq_false hd1]; rfl
        subst hRf
        clear hsm
        go_wp2
        go_ret
        exact ⟨rfl, HW3.out⟩
    · have hc1i : ¬ (ct : Int) ≤ 100 := by omega
      have hRf : R = false := by rw [hsm, decide_eq_false hc1]; rfl
      subst hRf
      clear hsm HDP
      go_wp2
      go_ret
      exact ⟨rfl, HW2.out⟩
end Go.Proofs.Ytodaoelkljaflaa
