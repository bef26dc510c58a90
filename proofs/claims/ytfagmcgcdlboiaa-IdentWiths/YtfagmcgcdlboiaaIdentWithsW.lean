/- The walk of IdentWiths: a vector is what was put into it. -/
import Derived.Test.YtfagmcgcdlboiaaIdY
import Derived.Deep.RegionWith
namespace Go.Proofs.Ytfagmcgcdlboiaa
open Go.RowKit Go.Sort
set_option linter.unusedVariables false

/-- The greatest Seq that was put of an author. -/
def mxL : List (Int × Int) → Int → Int
  | [], _ => 0
  | x :: r, c => if x.1 % 4194304 = c then max (1 + x.2 % 65536) (mxL r c) else mxL r c
theorem mx_nonneg : (E : List (Int × Int)) → (c : Int) → 0 ≤ mxL E c
  | [], _ => Int.le_refl _
  | x :: r, c => by
    have := mx_nonneg r c
    rw [mxL]
    split <;> omega
theorem mx_app : (E F : List (Int × Int)) → (c : Int) → mxL (E ++ F) c = max (mxL E c) (mxL F c)
  | [], F, c => by have := mx_nonneg F c; show mxL F c = max 0 (mxL F c); omega
  | x :: r, F, c => by
    rw [List.cons_append, mxL, mxL, mx_app r F c]
    split <;> omega
theorem mx_rev : (E : List (Int × Int)) → (c : Int) → mxL E.reverse c = mxL E c
  | [], _ => rfl
  | x :: r, c => by
    have h0 := mx_nonneg r c
    rw [List.reverse_cons, mx_app, mx_rev r c, mxL, mxL, mxL]
    split <;> omega
theorem fold_sq : (E : List (Int × Int)) → (v : List (Int × Int)) → Vec v → (c : Int) → sqL (E.foldl vecF v) c = max (sqL v c) (mxL E c)
  | [], v, h, c => by have := sq_nonneg v h.2 c; show sqL v c = max (sqL v c) 0; omega
  | x :: r, v, h, c => by
    have h0 := mx_nonneg r c
    have hs := sq_nonneg v h.2 c
    have hv : Vec (vecF v x) := with_vec v _ _ h
    rw [List.foldl_cons, fold_sq r _ hv c, mxL]
    unfold vecF
    rw [with_sq v _ _ h.1 c]
    by_cases hc : c = x.1 % 4194304
    · rw [if_pos hc, if_pos hc.symm, ← hc]; omega
    · rw [if_neg hc, if_neg (fun e => hc e.symm)]
theorem withs_math (E : List (Int × Int)) : E.foldl vecF [] = E.reverse.foldl vecF [] ∧ ∀ c, sqL (E.foldl vecF []) c = mxL E c := by
  have h1 := vec_fold E [] vec_nil
  have h2 := vec_fold E.reverse [] vec_nil
  refine ⟨vec_ext _ _ h1.1 h1.2 h2.1 h2.2 fun c => ?_, fun c => ?_⟩
  · rw [fold_sq E [] vec_nil c, fold_sq E.reverse [] vec_nil c, mx_rev]
  · rw [fold_sq E [] vec_nil c]
    have := mx_nonneg E c
    show max 0 (mxL E c) = mxL E c
    omega
theorem mx_next (E : List (Int × Int)) (k : Nat) (h : k < E.length) (c : Int) : mxL (E.take (k + 1)) c = if (E.getD k (0, 0)).1 % 4194304 = c then max (mxL (E.take k) c) (1 + (E.getD k (0, 0)).2 % 65536) else mxL (E.take k) c := by
  have e : E.take (k + 1) = E.take k ++ [E.getD k (0, 0)] := by rw [List.take_add_one]; simp [h]
  have h0 := mx_nonneg (E.take k) c
  rw [e, mx_app, mxL, mxL]
  split <;> omega
theorem rev_next (E : List (Int × Int)) (i : Nat) (h : i < E.length) : (E.reverse.take (i + 1)).foldl vecF [] = withL ((E.reverse.take i).foldl vecF []) ((E.getD (E.length - 1 - i) (0, 0)).1 % 4194304) (1 + (E.getD (E.length - 1 - i) (0, 0)).2 % 65536) := by
  have h2 := take_next E.reverse i (by simpa using h)
  have e : E.reverse.getD i (0, 0) = E.getD (E.length - 1 - i) (0, 0) := by
    simp [List.getElem?_reverse h]
  rw [e] at h2
  exact h2
set_option maxHeartbeats 4000000 in
theorem identWiths_walk (xl : List (Int × Int)) (al : Option Addr) (ll cl : Nat) (w : World) (rl : RdE w al ll xl) (hll : ll ≤ cl) (hcl : cl ≤ 9223372036854775807) (nl : al = none → cl = 0) :
    Calls Try.prog 8 #[.slice al ll cl] w fun e w' => e = .returned (.bool true) ∧ Below w.heap.size w w' := by
  obtain ⟨n, hn⟩ : ∃ n, n = min ll 30 := ⟨_, rfl⟩
  have hmn := min_run ll n 30 (by omega)
  have hn30 : n ≤ 30 := by omega
  have hnl : n ≤ ll := by omega
  obtain ⟨E, hE⟩ : ∃ E, E = xl.take n := ⟨_, rfl⟩
  have hEl : E.length = n := by rw [hE]; have := rl.1; simp; omega
  have HEL : Hid (E.length = n) := hEl
  have HD : Hid (∀ W i, Below w.heap.size w W → i < n → ∃ b off, al = some ⟨b, off, none⟩ ∧ W.cell? ⟨b, off + i * 2, none⟩ = some (.int .i64 (E.getD i (0, 0)).1) ∧ W.cell? ⟨b, off + i * 2 + 1, none⟩ = some (.int .i64 (E.getD i (0, 0)).2)) := by
    intro W i hW hi
    obtain ⟨b, off, e0, e1, e2⟩ := (rl.later hW).at i (by omega)
    have e3 : E.getD i (0, 0) = xl.getD i (0, 0) := by rw [hE]; simp [hi]
    rw [e3]
    exact ⟨b, off, e0, e1, e2⟩
  have KS : Hid (∀ W, Below w.heap.size w W → Calls Try.prog 10 #[] W (AnsV (.bool true) W)) := c_shown w
  clear rl hE hn hEl nl hcl
  have mixed : Try.prog.follows .mixedOrders = true := by kernel_rfl
  go_enter Try.func8, Try.ntmps8
  go_wp2_with (first | (go_at_call 10; refine (KS.out w (Below.refl _ _)).mono ?_; rintro e w1 ⟨rfl, hb⟩; have HB1 : Hid (Below w.heap.size w w1) := hb; clear hb))
  go_loopw [4, 5, 7] (fun x4 x5 x7 wr => ∃ i : Nat, x7 = .int .i64 i ∧ i ≤ n ∧ LiveE w [(x4, (E.take i).foldl vecF []), (x5, (E.reverse.take i).foldl vecF [])] wr) (fun _ _ x7 _ => n - (intOf x7).toNat)
  case atStart =>
    refine ⟨0, rfl, by omega, fun p hp => ?_, HB1.out⟩
    have hnil : HoldsE w1 (.slice none 0 0) [] := ⟨none, 0, rfl, by simp, by omega, fun _ => rfl, rdE_nil w1⟩
    simp at hp
    rcases hp with rfl | rfl <;> exact hnil
  case round =>
    clear HB1
    obtain ⟨i, hx7, hin, hlive⟩ := hrel
    subst hx7
    have HL0 : Hid (LiveE w [(u4, (E.take i).foldl vecF []), (u5, (E.reverse.take i).foldl vecF [])] wr) := hlive
    by_cases hlt : i < n
    · have hiE : i < E.length := by rw [HEL.out]; exact hlt
      have n1 := take_next E i hiE
      have n2 := rev_next E i hiE
      rw [HEL.out] at n2
      have v1 := vec_fold (E.take i) [] vec_nil
      have v2 := vec_fold (E.reverse.take i) [] vec_nil
      have l1 := fold_len (E.take i) []
      have l2 := fold_len (E.reverse.take i) []
      have g1 : (E.take i).length ≤ 30 := by simp; omega
      have g2 : (E.reverse.take i).length ≤ 30 := by simp; omega
      obtain ⟨y, hy⟩ : ∃ y, y = E.getD i (0, 0) := ⟨_, rfl⟩
      obtain ⟨x, hx⟩ : ∃ x, x = E.getD (n - 1 - i) (0, 0) := ⟨_, rfl⟩
      obtain ⟨b, off, hal, c0, c1⟩ := HD.out wr i hlive.2 hlt
      obtain ⟨k, hk⟩ : ∃ k, k = n - 1 - i := ⟨_, rfl⟩
      have hkn : k < n := by omega
      have HDX : Hid (∀ W, Below w.heap.size w W → ∃ b off, al = some ⟨b, off, none⟩ ∧ W.cell? ⟨b, off + k * 2, none⟩ = some (.int .i64 x.1) ∧ W.cell? ⟨b, off + k * 2 + 1, none⟩ = some (.int .i64 x.2)) := by
        intro W hW
        rw [hx, ← hk]
        exact HD.out W k hW hkn
      subst hal
      rw [← hy] at c0 c1 n1
      rw [← hx] at n2
      obtain ⟨y1, y2⟩ := y
      obtain ⟨x1, x2⟩ := x
      simp only [] at c0 c1 n1 n2 HDX
      have hy1 := and22 y1
      have hy2 := and16 y2
      have hx1 := and22 x1
      have hx2 := and16 x2
      obtain ⟨q1, hq1⟩ : ∃ z, z = y1 % 4194304 := ⟨_, rfl⟩
      obtain ⟨s1, hs1⟩ : ∃ z, z = y2 % 65536 := ⟨_, rfl⟩
      obtain ⟨q2, hq2⟩ : ∃ z, z = x1 % 4194304 := ⟨_, rfl⟩
      obtain ⟨s2, hs2⟩ : ∃ z, z = x2 % 65536 := ⟨_, rfl⟩
      rw [← hq1] at hy1 n1
      rw [← hs1] at hy2 n1
      rw [← hq2] at hx1 n2
      rw [← hs2] at hx2 n2
      have hw1 : IntKind.i64.wrap (1 + s1) = 1 + s1 := by rw [IntKind.wrap_i64]; omega
      have hw2 : IntKind.i64.wrap (1 + s2) = 1 + s2 := by rw [IntKind.wrap_i64]; omega
      have hkk : (n : Int) - 1 - (i : Int) = (k : Int) := by omega
      have HN1 : Hid ((E.take (i + 1)).foldl vecF [] = withL ((E.take i).foldl vecF []) q1 (1 + s1)) := n1
      have HN2 : Hid ((E.reverse.take (i + 1)).foldl vecF [] = withL ((E.reverse.take i).foldl vecF []) q2 (1 + s2)) := n2
      have K1 : Hid (∀ W u, HoldsE W u ((E.take i).foldl vecF []) → Calls Try.prog 21 #[u, .int .i64 q1, .int .i64 (1 + s1)] W (AnsE (withL ((E.take i).foldl vecF []) q1 (1 + s1)) W)) := c_with _ q1 (1 + s1) v1 (by simp at l1; omega)
      have K2 : Hid (∀ W u, HoldsE W u ((E.reverse.take i).foldl vecF []) → Calls Try.prog 21 #[u, .int .i64 q2, .int .i64 (1 + s2)] W (AnsE (withL ((E.reverse.take i).foldl vecF []) q2 (1 + s2)) W)) := c_with _ q2 (1 + s2) v2 (by simp at l2; omega)
      generalize (E.take i).foldl vecF [] = V at HL0 K1 HN1 hlive
      generalize (E.reverse.take i).foldl vecF [] = Z at HL0 K2 HN2 hlive
      have HLD : Hid (LiveE w [(u4, V), (u5, Z)] wr.drew) := HL0.out.later (Gw.below ⟨1, #[], by rw [grow_empty]; rfl⟩)
      clear n1 n2 v1 v2 l1 l2 g1 g2 hy hx hq1 hs1 hq2 hs2 hlive hiE hk
      go_upto_region 8 with fail
      go_region_with (first | (go_at_call 21; refine (K1.out wr.drew u4 (HLD.out.get u4 V (by simp))).mono ?_; rintro e w2 ⟨v4, rfl, hr, hb⟩; have HL2 : Hid (LiveE w [(v4, withL V q1 (1 + s1)), (u4, V), (u5, Z)] w2) := HLD.out.push hb hr; clear hr hb))
      all_goals
        go_upto_region 10 with fail
        clear c0 c1
        obtain ⟨b', off', hab, c0, c1⟩ := HDX.out w2 HL2.out.bel
        cases hab
        have HLE : Hid (LiveE w [(v4, withL V q1 (1 + s1)), (u4, V), (u5, Z)] w2.drew) := HL2.out.later (Gw.below ⟨1, #[], by rw [grow_empty]; rfl⟩)
        go_region_with (first | (go_at_call 21; refine (K2.out w2.drew u5 (HLE.out.get u5 Z (by simp))).mono ?_; rintro e w3 ⟨v5, rfl, hr, hb⟩; have HL3 : Hid (LiveE w [(v5, withL Z q2 (1 + s2)), (v4, withL V q1 (1 + s1)), (u4, V), (u5, Z)] w3) := HLE.out.push hb hr; clear hr hb))
        all_goals
          go_wp2
          go_roundw
          case rel =>
            refine ⟨i + 1, by go_num, by omega, fun p hp => ?_, HL3.out.bel⟩
            rw [HN1.out, HN2.out] at hp
            simp at hp
            rcases hp with rfl | rfl
            · exact HL3.out.get v4 _ (by simp)
            · exact HL3.out.get v5 _ (by simp)
          case measure => simp [intOf]; omega
    · obtain rfl : i = n := by omega
      obtain ⟨m1, m2⟩ := withs_math E
      rw [List.take_of_length_le (by rw [HEL.out]; omega), List.take_of_length_le (by rw [List.length_reverse, HEL.out]; omega), ← m1] at hlive
      have hV := vec_fold E [] vec_nil
      have hR := fold_rng E [] (fun x h => by cases h)
      have hVl := fold_len E []
      simp only [List.length_nil, Nat.zero_add, HEL.out] at hVl
      have K1 : Hid (∀ W u, HoldsE W u (E.foldl vecF []) → Calls Try.prog 30 #[u] W (AnsV (.bool true) W)) := c_vector _ true (vc_rng _ hV hR).symm (by omega)
      have K2 : Hid (∀ W u v, HoldsE W u (E.foldl vecF []) → HoldsE W v (E.foldl vecF []) → Calls Try.prog 20 #[u, v] W (AnsV (.bool true) W)) := c_same _ _ true (by simp) (by omega)
      have K3 : Hid (∀ c W u, HoldsE W u (E.foldl vecF []) → Calls Try.prog 28 #[u, .int .i64 c] W (AnsV (.int .i64 (mxL E c)) W)) := fun c => c_seq _ c _ (m2 c).symm hV (by omega)
      generalize E.foldl vecF [] = V at hlive hVl K1 K2 K3
      obtain ⟨a4, c4, h4, _⟩ := hlive.get u4 V (by simp)
      subst h4
      have HL0 : Hid (LiveE w [(.slice a4 V.length c4, V), (u5, V)] wr) := hlive
      clear hlive m1 m2 hV hR hlt
      go_wp2
      go_loopw [9] (fun x9 ws => ∃ k : Nat, x9 = .int .i64 k ∧ k ≤ i ∧ LiveE w [(.slice a4 V.length c4, V), (u5, V)] ws) (fun x9 _ => i - (intOf x9).toNat)
      case atStart => exact ⟨0, rfl, by omega, HL0.out⟩
      case round =>
        obtain ⟨k, hx9, hki, hlive⟩ := hrel
        subst hx9
        have HL1 : Hid (LiveE w [(.slice a4 V.length c4, V), (u5, V)] wr) := hlive
        by_cases hlt : k < i
        · obtain ⟨b, off, hal, c0, c1⟩ := HD.out wr k hlive.2 hlt
          subst hal
          have HDK : Hid (∀ W, Below w.heap.size w W → W.cell? ⟨b, off + k * 2, none⟩ = some (.int .i64 (E.getD k (0, 0)).1)) := by
            intro W hW
            obtain ⟨b', off', e1, e2, _⟩ := HD.out W k hW hlt
            cases e1
            exact e2
          obtain ⟨c, hc⟩ : ∃ c, c = (E.getD k (0, 0)).1 % 4194304 := ⟨_, rfl⟩
          have hand := and22 (E.getD k (0, 0)).1
          rw [← hc] at hand
          generalize (E.getD k (0, 0)).1 = y1 at hand HDK c0
          clear hlive c0 c1 hc
          go_wp2
          go_loopw [10, 11] (fun x10 x11 ws => ∃ j : Nat, x10 = .int .i64 (mxL (E.take j) c) ∧ x11 = .int .i64 j ∧ j ≤ i ∧ LiveE w [(.slice a4 V.length c4, V), (u5, V)] ws) (fun _ x11 _ => i - (intOf x11).toNat)
          case atStart => exact ⟨0, rfl, rfl, by omega, HL1.out⟩
          case round =>
            clear HL1
            obtain ⟨j, hx10, hx11, hji, hlive⟩ := hrel
            subst hx11
            have HL2 : Hid (LiveE w [(.slice a4 V.length c4, V), (u5, V)] wr) := hlive
            by_cases hjl : j < i
            · have hn := mx_next E j (by rw [HEL.out]; exact hjl) c
              obtain ⟨b', off', hal, d0, d1⟩ := HD.out wr j hlive.2 hjl
              cases hal
              have c0 := HDK.out wr hlive.2
              have HDJ : Hid (∀ W, Below w.heap.size w W → W.cell? ⟨b, off + j * 2 + 1, none⟩ = some (.int .i64 (E.getD j (0, 0)).2)) := by
                intro W hW
                obtain ⟨b', off', e1, _, e3⟩ := HD.out W j hW hjl
                cases e1
                exact e3
              have ha1 := and22 (E.getD j (0, 0)).1
              have ha2 := and16 (E.getD j (0, 0)).2
              have hmn0 := mx_nonneg (E.take j) c
              generalize (E.getD j (0, 0)).1 = z1 at d0 hn ha1
              generalize (E.getD j (0, 0)).2 = z2 at d1 hn ha2 HDJ
              generalize mxL (E.take j) c = M at hn hx10 hmn0
              subst hx10
              obtain ⟨q1, hq1⟩ : ∃ z, z = z1 % 4194304 := ⟨_, rfl⟩
              obtain ⟨s1, hs1⟩ : ∃ z, z = z2 % 65536 := ⟨_, rfl⟩
              rw [← hq1] at ha1 hn
              rw [← hs1] at ha2 hn
              have hs10 : 0 ≤ s1 := by omega
              have hs11 : s1 < 65536 := by omega
              have hmx := max_run M (1 + s1)
              have hw1 : IntKind.i64.wrap (1 + s1) = 1 + s1 := by rw [IntKind.wrap_i64]; omega
              clear hq1 hs1 hlive d1
              by_cases heq : q1 = c
              · rw [if_pos heq] at hn
                obtain ⟨MM, hMM⟩ : ∃ MM, MM = max M (1 + s1) := ⟨_, rfl⟩
                rw [← hMM] at hn hmx
                have HN : Hid (mxL (E.take (j + 1)) c = MM) := hn
                have hqb : (q1 == c) = true := by simp [heq]
                clear hn hMM heq
                go_upto_region 18 with fail
                go_quiet (fail)
                have HL3 : Hid (LiveE w [(.slice a4 V.length c4, V), (u5, V)] (wr.drewN nq)) := HL2.out.later (Gw.below ⟨nq, #[], by rw [grow_empty]⟩)
                have f1 := HDJ.out _ HL3.out.bel
                go_wp2
                go_roundw
                case rel => exact ⟨j + 1, by rw [HN.out], by go_num, by omega, HL3.out⟩
                case measure => simp [intOf]; omega
              · rw [if_neg heq] at hn
                have HN : Hid (mxL (E.take (j + 1)) c = M) := hn
                have hqb : (q1 == c) = false := beq_false_of_ne heq
                clear hn heq
                go_upto_region 18 with fail
                go_quiet (fail)
                have HL3 : Hid (LiveE w [(.slice a4 V.length c4, V), (u5, V)] (wr.drewN nq)) := HL2.out.later (Gw.below ⟨nq, #[], by rw [grow_empty]⟩)
                go_wp2
                go_roundw
                case rel => exact ⟨j + 1, by rw [HN.out], by go_num, by omega, HL3.out⟩
                case measure => simp [intOf]; omega
            · obtain rfl : j = i := by omega
              rw [List.take_of_length_le (by rw [HEL.out]; omega)] at hx10
              have K4 : Hid (Calls Try.prog 28 #[.slice a4 V.length c4, .int .i64 c] wr (AnsV (.int .i64 (mxL E c)) wr)) := K3.out c wr _ (HL2.out.get (.slice a4 V.length c4) V (by simp))
              have c0 := HDK.out wr hlive.2
              generalize mxL E c = M at K4 hx10
              subst hx10
              clear hlive
              go_wp2_with (first | (go_at_call 28; refine K4.out.mono ?_; rintro e w5 ⟨rfl, hb⟩; have HL3 : Hid (LiveE w [(.slice a4 V.length c4, V), (u5, V)] w5) := HL2.out.later hb; clear hb))
              go_roundw
              case rel => exact ⟨k + 1, by go_num, by omega, HL3.out⟩
              case measure => simp [intOf]; omega
        · have hvl : V.length ≤ i := hVl
          have K5 : Hid (∀ W u, HoldsE W u V → Calls Try.prog 30 #[u] W (AnsV (.bool true) W)) := K1.out
          clear hlive
          go_wp2_with (first
            | (go_at_call 30; refine (K5.out _ _ (HL1.out.get (.slice a4 V.length c4) V (by simp))).mono ?_; rintro e w5 ⟨rfl, hb⟩; have HL3 : Hid (LiveE w [(.slice a4 V.length c4, V), (u5, V)] w5) := HL1.out.later hb; clear hb)
            | (go_at_call 20; refine (K2.out _ _ _ (HL3.out.get (.slice a4 V.length c4) V (by simp)) (HL3.out.get u5 V (by simp))).mono ?_; rintro e w6 ⟨rfl, hb⟩; have HL4 : Hid (LiveE w [(.slice a4 V.length c4, V), (u5, V)] w6) := HL3.out.later hb; clear hb))
          go_ret
          exact ⟨by first | rfl | (simp; omega), HL4.out.bel⟩
end Go.Proofs.Ytfagmcgcdlboiaa
