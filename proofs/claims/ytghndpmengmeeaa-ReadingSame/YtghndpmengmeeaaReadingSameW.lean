/- The walk of ReadingSame. -/
import Derived.Test.YtghndpmengmeeaaReadingEndsW
import Derived.Test.YtghndpmengmeeaaReaHl
namespace Go.Proofs.Ytghndpmengmeeaa
open Go.RowKit
set_option linter.unusedVariables false
set_option linter.unusedSimpArgs false

set_option maxHeartbeats 4000000 in
theorem sameB_any (n ga gb ca cb : Nat) (f : Nat → Bool) (w : World) (hn : n ≤ 1000) (h1 : ∀ i, i < n → w.cell? ⟨ga, i, none⟩ = some (.bool (f i))) (h2 : ∀ i, i < n → w.cell? ⟨gb, i, none⟩ = some (.bool (f i))) :
    Calls Try.prog 14 #[.slice (some ⟨ga, 0, none⟩) n ca, .slice (some ⟨gb, 0, none⟩) n cb] w fun e w' => e = .returned (.bool true) ∧ Below w.heap.size w w' := by
  have H1 : Hid (∀ i, i < n → w.cell? ⟨ga, i, none⟩ = some (.bool (f i))) := h1
  have H2 : Hid (∀ i, i < n → w.cell? ⟨gb, i, none⟩ = some (.bool (f i))) := h2
  have hni : (n : Int) ≤ 1000 := by omega
  clear h1 h2
  go_enter Try.func14, Try.ntmps14
  go_wp2
  go_loopw [5] (fun x5 wr => ∃ k : Nat, k ≤ n ∧ x5 = .int .i64 k ∧ Below w.heap.size w wr) (fun x5 _ => n - (intOf x5).toNat)
  case atStart => exact ⟨0, by omega, rfl, Below.refl _ _⟩
  case round =>
    obtain ⟨k, hk, hx5, hbl⟩ := hrel
    subst hx5
    have HBL : Hid (Below w.heap.size w wr) := hbl
    by_cases hlt : k < n
    · have t1 := upC hbl (H1.out k hlt)
      have t2 := upC hbl (H2.out k hlt)
      have hki : (k : Int) < (n : Int) := by omega
      have hk0 : (0 : Int) ≤ (k : Int) := by omega
      clear hbl
      go_wp2_with fail
      go_quiet (fail)
      go_wp2
      go_roundw
      case rel => exact ⟨k + 1, by omega, by go_num, below_drewN HBL.out _⟩
      case measure => first | (simp [intOf]; done) | (simp [intOf]; omega)
    · obtain rfl : k = n := by omega
      clear hbl
      go_wp2
      go_ret
      exact ⟨rfl, HBL.out⟩

set_option maxHeartbeats 16000000 in
theorem readingSame_walk (D : Nat) (l : List Rl) (xs : List Int) (al a : Option Addr) (n c len cap : Nat) (z : Int) (w : World) (hrow : RowR w D al n l) (hn : n ≤ 140737488355328) (hrd : Rd .i64 w a len xs) (hcap : len ≤ cap) (hcm : cap ≤ 9223372036854775807) (hnone : a = none → cap = 0) :
    Calls Try.prog 10 #[.slice al n c, .slice a len cap, .int .i64 z] w fun e w' => e = .returned (.bool true) ∧ Below w.heap.size w w' := by
  obtain ⟨i0, hi, hz0, hz1, hz2⟩ := info_parts info_i
  have HI : Hid (Try.prog.info? 3 = some i0 ∧ i0.zero = some (.int .i64 0) ∧ i0.size = 1 ∧ i0.bytes = 8) := ⟨hi, hz0, hz1, hz2⟩
  have HF : Hid (∀ W, Below w.heap.size w W → Calls Try.prog 12 #[.slice al n c, .slice a len cap] W (FewPost l xs W)) := fun W hW => few_any D l xs al a n c len cap W (hrow.later hW) hn (hrd.later hW) hcap hcm hnone
  obtain ⟨Z, hZ⟩ : ∃ Z, Z = z % 256 := ⟨_, rfl⟩
  have hand : bits .and .i64 z 255 = Z := by rw [and_low z 255 8 (by omega) (by decide)]; exact hZ.symm
  have hZ0 : 0 ≤ Z := by omega
  have hZ1 : Z < 256 := by omega
  clear hi hz0 hz1 hz2 hrow hn hrd hcap hcm hnone hZ
  go_enter Try.func10, Try.ntmps10
  go_wp2_with fail
  refine (shown_any w).mono ?_
  rintro e w1 ⟨rfl, hb1⟩
  have B1 : Hid (Below w.heap.size w w1) := hb1
  clear hb1
  go_wp2_with fail
  refine (HF.out w1 B1.out).mono ?_
  rintro e w2 ⟨v1, a2, c2, rfl, hou, hox, hb2⟩
  have B2 : Hid (Below w.heap.size w w2) := B1.out.trans (hb2.mono B1.out.size)
  obtain ⟨L, hL⟩ : ∃ L, L = fewR l := ⟨_, rfl⟩
  obtain ⟨X, hX⟩ : ∃ X, X = xs.take 16 := ⟨_, rfl⟩
  obtain ⟨m, hm⟩ : ∃ m, m = X.length := ⟨_, rfl⟩
  have hL10 : L.length ≤ 10 := by rw [hL]; exact fewR_len l
  have hm16 : m ≤ 16 := by rw [hm, hX]; simp; omega
  rw [← hX, ← hm] at hox ⊢
  rw [← hL] at hou
  obtain ⟨a2', c2', he, hc2, hc2m, hrdx, hn2⟩ := rd_own2 hox
  cases he
  have HRX : Hid (Rd .i64 w2 a2 m X ∧ m ≤ c2 ∧ (a2 = none → c2 = 0)) := ⟨hrdx, hc2, hn2⟩
  obtain ⟨al2, cl2, rfl, hrowl⟩ := hou.row
  have HRW : Hid (RowR w2 12 al2 L.length L) := hrowl
  obtain ⟨N, hN⟩ : ∃ N, N = L.length := ⟨_, rfl⟩
  rw [← hN] at HRW ⊢
  have HN : Hid (N = L.length ∧ N ≤ 10 ∧ m = X.length) := ⟨hN, by omega, hm⟩
  have HBX : Hid (∀ (V : World) (Y : List Int) (ay : Option Addr) (cy : Nat), Below w2.heap.size w2 V → Rd .i64 V ay m Y → m ≤ cy → (ay = none → cy = 0) → Calls Try.prog 13 #[.slice al2 N cl2, .slice ay m cy] V fun e w' => ∃ g c, e = .returned (.slice (some ⟨g, 0, none⟩) (m + 1) c) ∧ (∀ i, i < m + 1 → w'.cell? ⟨g, i, none⟩ = some (.bool (boundAt L Y i))) ∧ Below V.heap.size V w') := by
    intro V Y ay cy hV hR hc hn
    have hYl : Y.length = m := hR.1
    refine (boundaries_any 12 L Y al2 ay N cl2 m cy V (HRW.out.later hV) (by omega) (by omega) hR hc hn (by omega)).mono ?_
    rintro e w' ⟨v, rfl, ho, hb⟩
    obtain ⟨g, c, rfl, hc⟩ := rowB_at ho (by rw [boundL_len]; omega)
    rw [boundL_len, hYl] at hc ⊢
    exact ⟨g, c, rfl, fun i hi => by rw [hc i (by omega), boundL_get _ _ _ (by omega)], hb⟩
  have HLG : Hid (∀ (V : World) (x : Nd) (xa xk : Option Addr) (xc xkc B : Nat), InV B V 12 x [.int .i64 x.op, .slice xa x.cl.length xc, .slice xk (toL x.kids).length xkc] → Calls Try.prog 22 #[.agg #[.int .i64 x.op, .slice xa x.cl.length xc, .slice xk (toL x.kids).length xkc]] V fun e w' => e = .returned (.bool x.big) ∧ Below V.heap.size V w') := fun V x xa xk xc xkc B h => large_any 12 x xa xk xc xkc B V h
  have hNi : (N : Int) ≤ 10 := by omega
  have hmi : (m : Int) ≤ 16 := by omega
  clear hou hox hb2 hL hX hm hL10 hc2 hc2m hrdx hn2 hrowl hN HF
  go_wp2
  go_loopw [8] (fun x8 wr => ∃ k : Nat, k ≤ N ∧ x8 = .int .i64 k ∧ (∀ j (hj : j < L.length), j < k → L[j].left.big = false ∧ L[j].right.big = false) ∧ Below w2.heap.size w2 wr) (fun x8 _ => N - (intOf x8).toNat)
  case atStart => exact ⟨0, by omega, rfl, fun j _ hj => absurd hj (by omega), Below.refl _ _⟩
  case round =>
    obtain ⟨k, hk, hx8, hat, hbl⟩ := hrel
    subst hx8
    have HA : Hid (∀ j (hj : j < L.length), j < k → L[j].left.big = false ∧ L[j].right.big = false) := hat
    have HBL : Hid (Below w2.heap.size w2 wr) := hbl
    clear hat hbl
    by_cases hlt : k < N
    · have hkl : k < L.length := by rw [← HN.out.1]; exact hlt
      obtain ⟨b, off, q, rfl, hr, t0, t1, t2, t3, t4, t5, _, _⟩ := (HRW.out.later HBL.out).cells k hkl
      obtain ⟨la, lc, lp, lpc, ra, rc, rp, rpc⟩ := q
      have HC1 : Hid (Calls Try.prog 22 #[.agg #[.int .i64 L[k].left.op, .slice la L[k].left.cl.length lc, .slice lp (toL L[k].left.kids).length lpc]] wr fun e w' => e = .returned (.bool L[k].left.big) ∧ Below wr.heap.size wr w') := HLG.out wr L[k].left la lp lc lpc _ hr.1
      have HC2 : Hid (∀ V : World, Below wr.heap.size wr V → Calls Try.prog 22 #[.agg #[.int .i64 L[k].right.op, .slice ra L[k].right.cl.length rc, .slice rp (toL L[k].right.kids).length rpc]] V fun e w' => e = .returned (.bool L[k].right.big) ∧ Below V.heap.size V w') := fun V hV => HLG.out V L[k].right ra rp rc rpc _ (hr.later hV).2
      obtain ⟨lo, hlo⟩ : ∃ lo, lo = L[k].left.op := ⟨_, rfl⟩
      obtain ⟨ln, hln⟩ : ∃ ln, ln = L[k].left.cl.length := ⟨_, rfl⟩
      obtain ⟨lk, hlk⟩ : ∃ lk, lk = (toL L[k].left.kids).length := ⟨_, rfl⟩
      obtain ⟨ro, hro⟩ : ∃ ro, ro = L[k].right.op := ⟨_, rfl⟩
      obtain ⟨rn, hrn⟩ : ∃ rn, rn = L[k].right.cl.length := ⟨_, rfl⟩
      obtain ⟨rk, hrk⟩ : ∃ rk, rk = (toL L[k].right.kids).length := ⟨_, rfl⟩
      obtain ⟨bl, hbl⟩ : ∃ bl, bl = L[k].left.big := ⟨_, rfl⟩
      obtain ⟨br, hbr⟩ : ∃ br, br = L[k].right.big := ⟨_, rfl⟩
      simp only [← hlo, ← hln, ← hlk, ← hro, ← hrn, ← hrk, ← hbl, ← hbr] at HC1 HC2 t0 t1 t2 t3 t4 t5
      have HBB : Hid (bl = L[k].left.big ∧ br = L[k].right.big) := ⟨hbl, hbr⟩
      have HT : Hid (∀ V : World, Below wr.heap.size wr V → V.cell? ⟨b, off + k * 8 + 3, none⟩ = some (.int .i64 ro) ∧ V.cell? ⟨b, off + k * 8 + 4, none⟩ = some (.slice ra rn rc) ∧ V.cell? ⟨b, off + k * 8 + 5, none⟩ = some (.slice rp rk rpc)) := fun V hV => ⟨upC hV t3, upC hV t4, upC hV t5⟩
      clear hr hlo hln hlk hro hrn hrk hbl hbr t3 t4 t5
      go_wp2_with fail
      refine HC1.out.mono ?_
      rintro e w3 ⟨rfl, hb3⟩
      have HB3 : Hid (Below w2.heap.size w2 w3) := HBL.out.trans (hb3.mono HBL.out.size)
      have HW3 : Hid (Below wr.heap.size wr w3) := hb3
      clear hb3 t0 t1 t2 HC1
      cases bl with
      | true =>
        go_wp2
        go_ret
        exact ⟨rfl, B2.out.trans (HB3.out.mono B2.out.size)⟩
      | false =>
        obtain ⟨t3, t4, t5⟩ := HT.out w3 HW3.out
        go_wp2_with fail
        refine (HC2.out w3 HW3.out).mono ?_
        rintro e w4 ⟨rfl, hb4⟩
        have HB4 : Hid (Below w2.heap.size w2 w4) := HB3.out.trans (hb4.mono HB3.out.size)
        clear hb4 t3 t4 t5 HC2 HT
        cases br with
        | true =>
          go_wp2
          go_ret
          exact ⟨rfl, B2.out.trans (HB4.out.mono B2.out.size)⟩
        | false =>
          go_wp2
          go_roundw
          case rel =>
            refine ⟨k + 1, by omega, by go_num, fun j hj hj2 => ?_, HB4.out⟩
            rcases Nat.lt_or_ge j k with h | h
            · exact HA.out j hj h
            · obtain rfl : j = k := by omega
              exact ⟨HBB.out.1.symm, HBB.out.2.symm⟩
          case measure => first | (simp [intOf]; done) | (simp [intOf]; omega)
    · have HBIG : Hid (∀ r ∈ L, r.left.big = false ∧ r.right.big = false) := by
        intro r hr
        obtain ⟨j, hj, rfl⟩ := List.mem_iff_getElem.1 hr
        exact HA.out j hj (by have := HN.out.1; omega)
      obtain rfl : k = N := by omega
      go_wp2
      go_loopw [9, 10] (fun x9 x10 wq => ∃ i : Nat, i ≤ m ∧ x10 = .int .i64 i ∧ ∃ ys : List Int, ys.length = i ∧ wq.ownsRow w2.heap.size 3 1 x9 i (ys.map (Value.int .i64)) ∧ TR (X.take i) ys ∧ Below w2.heap.size w2 wq) (fun _ x10 _ => m - (intOf x10).toNat)
      case atStart => exact ⟨0, by omega, rfl, [], rfl, World.ownsRow_nil _ _ _ _, by simp [TR], HBL.out⟩
      case round =>
        obtain ⟨i, hi, hx10, ys, hyl, ho, htr, hbl2⟩ := hrel
        subst hx10
        obtain ⟨av, cv, rfl⟩ := own_sl1 ho
        have HO : Hid (wr.ownsRow w2.heap.size 3 1 (.slice av i cv) i (ys.map (Value.int .i64))) := ho
        have HBL2 : Hid (Below w2.heap.size w2 wr) := hbl2
        have HYL : Hid (ys.length = i ∧ TR (X.take i) ys) := ⟨hyl, htr⟩
        clear hyl htr hbl2 ho
        by_cases hlt2 : i < m
        · have hil : i < X.length := by rw [← HN.out.2.2]; exact hlt2
          obtain ⟨b, off, rfl, hcl⟩ := (HRX.out.1.later HBL2.out).2 (by omega)
          have hcc := hcl i hlt2
          obtain ⟨x, hx⟩ : ∃ x, x = X.getD i 0 := ⟨_, rfl⟩
          have HX : Hid (x = X[i]) := by show x = X[i]; rw [hx]; simp [hil]
          rw [← hx] at hcc
          have HTR : Hid (∀ v : Int, (x = v ∨ (3 < x ∧ 3 < v)) → TR (X.take (i + 1)) (ys ++ [v])) := by
            intro v hv
            rw [List.take_add_one, List.getElem?_eq_getElem hil]
            exact TR.snoc _ _ HYL.out.2 _ _ (by rw [← HX.out]; exact hv)
          have hw1 : IntKind.i64.wrap (4 + Z) = 4 + Z := by rw [IntKind.wrap_i64]; omega
          have hw2 : IntKind.i64.wrap (4 + Z + (i : Int)) = 4 + Z + (i : Int) := by rw [IntKind.wrap_i64]; omega
          have hi0 : (0 : Int) ≤ (i : Int) := by omega
          have him : (i : Int) < (m : Int) := by omega
          clear hcl hx
          by_cases h3 : 3 < x
          · skip
            go_wp2_with (at_builtin; refine wpList_append_lies _ rfl _ _ 23 rfl w2.heap.size 3 i0 _ 1 8 Try.underlying23 HI.out.1 HI.out.2.1 HI.out.2.2.1 HI.out.2.2.2 rfl (by decide) (.slice av i cv) i (ys.map (Value.int .i64)) rfl (own_alloc HO.out _) ⟨wr.heap.size, 0, none⟩ 1 1 [.int .i64 (4 + Z + (i : Int))] rfl rfl (World.news_of_block (cs := #[.int .i64 (4 + Z + (i : Int))]) (t := 3) (fr := (0, 0)) (heap_alloc_new wr _)) (by simp [Value.oneCell']) (by omega) (by unfold maxLen; omega) (by omega) (by have := HBL2.out.size; simp; omega) _ rfl (fun g cp w3 q1 q2 q3 q4 => ?_); have HO2 : Hid (w3.ownsRow w2.heap.size 3 1 (.slice (some ⟨g, 0, none⟩) (i + 1) cp) (i + 1) ((ys ++ [(4 + Z + (i : Int))]).map (Value.int .i64))) := (by rw [List.map_append]; exact q1); have HB3 : Hid (Below w2.heap.size w2 w3) := ((HBL2.out.alloc HBL2.out.size _).grown q2 (by have := HBL2.out.size; simp; omega) (fun k hk => (HO.out.lt k hk).1)); clear q1 q2 q3 q4)
            go_roundw
            case rel => first | exact ⟨i + 1, by omega, by go_num, ys ++ [(4 + Z + (i : Int))], by simp [HYL.out], HO2.out, HTR.out (4 + Z + (i : Int)) (.inr ⟨h3, by omega⟩), HB3.out⟩ | ((repeat apply Exists.intro); exact ⟨⟨i + 1, by omega, by go_num, ys ++ [(4 + Z + (i : Int))], by simp [HYL.out], HO2.out, HTR.out (4 + Z + (i : Int)) (.inr ⟨h3, by omega⟩), HB3.out⟩, rfl⟩)
            case measure => first | (simp [intOf]; done) | (simp [intOf]; omega)
          · have h4 : x ≤ 3 := by omega
            go_wp2_with (at_builtin; refine wpList_append_lies _ rfl _ _ 23 rfl w2.heap.size 3 i0 _ 1 8 Try.underlying23 HI.out.1 HI.out.2.1 HI.out.2.2.1 HI.out.2.2.2 rfl (by decide) (.slice av i cv) i (ys.map (Value.int .i64)) rfl (own_alloc HO.out _) ⟨wr.heap.size, 0, none⟩ 1 1 [.int .i64 x] rfl rfl (World.news_of_block (cs := #[.int .i64 x]) (t := 3) (fr := (0, 0)) (heap_alloc_new wr _)) (by simp [Value.oneCell']) (by omega) (by unfold maxLen; omega) (by omega) (by have := HBL2.out.size; simp; omega) _ rfl (fun g cp w3 q1 q2 q3 q4 => ?_); have HO2 : Hid (w3.ownsRow w2.heap.size 3 1 (.slice (some ⟨g, 0, none⟩) (i + 1) cp) (i + 1) ((ys ++ [x]).map (Value.int .i64))) := (by rw [List.map_append]; exact q1); have HB3 : Hid (Below w2.heap.size w2 w3) := ((HBL2.out.alloc HBL2.out.size _).grown q2 (by have := HBL2.out.size; simp; omega) (fun k hk => (HO.out.lt k hk).1)); clear q1 q2 q3 q4)
            go_roundw
            case rel => first | exact ⟨i + 1, by omega, by go_num, ys ++ [x], by simp [HYL.out], HO2.out, HTR.out x (.inl rfl), HB3.out⟩ | ((repeat apply Exists.intro); exact ⟨⟨i + 1, by omega, by go_num, ys ++ [x], by simp [HYL.out], HO2.out, HTR.out x (.inl rfl), HB3.out⟩, rfl⟩)
            case measure => first | (simp [intOf]; done) | (simp [intOf]; omega)
        · obtain rfl : i = m := by omega
          obtain ⟨a4, c4, he4, hc4, hc4m, hrd4, hn4⟩ := rd_own2 HO.out
          cases he4
          have HRY : Hid (Rd .i64 wr av i ys ∧ i ≤ cv ∧ (av = none → cv = 0)) := ⟨hrd4, hc4, hn4⟩
          have HEQ : Hid (∀ p, boundAt L X p = boundAt L ys p) := by
            intro p
            have h5 := HYL.out.2
            rw [List.take_of_length_le (by rw [← HN.out.2.2]; exact Nat.le_refl _)] at h5
            exact bound_same L HBIG.out X ys h5 p
          clear hrd4 hc4 hn4 hc4m
          go_wp2_with fail
          refine (HBX.out wr X a2 c2 HBL2.out (HRX.out.1.later HBL2.out) HRX.out.2.1 HRX.out.2.2).mono ?_
          rintro e w3 ⟨g3, c3, rfl, hc3, hb3⟩
          have HB3 : Hid (Below w2.heap.size w2 w3) := HBL2.out.trans (hb3.mono HBL2.out.size)
          have HR3 : Hid (Rd .i64 w3 av i ys) := HRY.out.1.later hb3
          have HC3 : Hid (∀ p, p < i + 1 → w3.cell? ⟨g3, p, none⟩ = some (.bool (boundAt L X p))) := hc3
          clear hc3 hb3
          go_wp2_with fail
          refine (HBX.out w3 ys av cv HB3.out HR3.out HRY.out.2.1 HRY.out.2.2).mono ?_
          rintro e w4 ⟨g4, c4, rfl, hc4, hb4⟩
          have HB4 : Hid (Below w2.heap.size w2 w4) := HB3.out.trans (hb4.mono HB3.out.size)
          have HSM : Hid (Calls Try.prog 14 #[.slice (some ⟨g3, 0, none⟩) (i + 1) c3, .slice (some ⟨g4, 0, none⟩) (i + 1) c4] w4 fun e w' => e = .returned (.bool true) ∧ Below w4.heap.size w4 w') :=
            sameB_any (i + 1) g3 g4 c3 c4 (boundAt L X) w4 (by omega) (fun p hp => upC hb4 (HC3.out p hp)) (fun p hp => by rw [HEQ.out p]; exact hc4 p hp)
          clear hc4 hb4
          go_wp2_with fail
          refine HSM.out.mono ?_
          rintro e w5 ⟨rfl, hb5⟩
          have HB5 : Hid (Below w.heap.size w w5) := B2.out.trans ((HB4.out.trans (hb5.mono HB4.out.size)).mono B2.out.size)
          clear hb5
          go_wp2
          go_ret
          exact ⟨rfl, HB5.out⟩
end Go.Proofs.Ytghndpmengmeeaa
