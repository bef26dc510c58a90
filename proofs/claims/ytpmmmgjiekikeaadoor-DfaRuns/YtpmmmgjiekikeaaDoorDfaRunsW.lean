/- The walk of DfaRuns. -/
import Derived.Test.YtpmmmgjiekikeaaDoorJ21
import Derived.Test.YtpmmmgjiekikeaaDoorJ22
namespace Go.Proofs.YtpmmmgjiekikeaaDoor
open Go.RowKit Go.Shelf Go.Maps
set_option linter.unusedVariables false
set_option linter.unusedSimpArgs false

/-- An expression fits behind each beginning, as Suffix or Whole tells. -/
theorem out_told {K : Nat} {xs : List (Nd × Bool)} {row : List Int} (hc : Cls K row) {k : Nat} {x : Nd × Bool} (hx : xs[k]? = some x) {G : List Bool} (h1 : x.2 = true → EndsR x.1.fits row (fromB row.length) G) (h2 : x.2 = false → EndsR x.1.fits row (List.replicate (row.length + 1) true) G) (i : Nat) (hi : i ≤ row.length) : outC xs ((row.map Int.toNat).take i) k ↔ G[i]? = some true := by
  cases hw : x.2 with
  | true => rw [out_whole hc hx hw i, ends_whole (h1 hw) i hi]
  | false => rw [out_some hc hx hw i hi, ends_suffix (h2 hw) i hi]
theorem bit_told {K : Nat} {xs : List (Nd × Bool)} {nx : List (List Nat)} {ou : List Nat} (hle : LeastOf K xs nx ou) {row : List Int} (hc : Cls K row) {k : Nat} {x : Nd × Bool} (hx : xs[k]? = some x) {G : List Bool} (hG : G.length = row.length + 1) (h1 : x.2 = true → EndsR x.1.fits row (fromB row.length) G) (h2 : x.2 = false → EndsR x.1.fits row (List.replicate (row.length + 1) true) G) (i : Nat) (hi : i ≤ row.length) : (ouR nx ou row i).testBit k = G.getD i false := by
  have h3 := hle.tells _ ((cls_nat hc).2.take i) k
  have h4 := out_told hc hx h1 h2 i hi
  unfold outC at h4
  have h5 : (ouR nx ou row i).testBit k = true ↔ G[i]? = some true := h3.trans h4
  rw [Bool.eq_iff_iff, h5, List.getD_eq_getElem?_getD, List.getElem?_eq_getElem (by omega)]
  simp
/-- What comes in at a place of a row of expressions. -/
theorem XRow.cells {B : Nat} {w : World} {D : Nat} {a : Option Addr} {xs : List (Nd × Bool)} (h : XRow B w D a xs) {k : Nat} (hk : k < xs.length) : ∃ b off ca cc pa pc, a = some ⟨b, off, none⟩ ∧ InV B w D xs[k].1 [.int .i64 xs[k].1.op, .slice ca xs[k].1.cl.length cc, .slice pa (toL xs[k].1.kids).length pc] ∧ w.cell? ⟨b, off + k * 4, none⟩ = some (.int .i64 xs[k].1.op) ∧ w.cell? ⟨b, off + k * 4 + 1, none⟩ = some (.slice ca xs[k].1.cl.length cc) ∧ w.cell? ⟨b, off + k * 4 + 2, none⟩ = some (.slice pa (toL xs[k].1.kids).length pc) ∧ w.cell? ⟨b, off + k * 4 + 3, none⟩ = some (.bool xs[k].2) := by
  obtain ⟨b, off, e, hc⟩ := h (by omega)
  obtain ⟨us, hin, hus, hwh⟩ := hc k hk
  obtain ⟨ca, cc, pa, pc, rfl⟩ := hin.three
  exact ⟨b, off, ca, cc, pa, pc, e, hin, hus 0 _ rfl, hus 1 _ rfl, hus 2 _ rfl, hwh⟩
theorem ok_okN {n : Nd} (h : n.ok = true) : okN 32 n = true := by
  unfold Nd.ok at h
  simp only [Bool.and_eq_true] at h
  exact h.1
set_option maxRecDepth 100000 in
set_option maxHeartbeats 8000000 in
theorem dfaRuns_walk (K : Int) (D : Nat) (l : List (Nd × Bool)) (la : Option Addr) (lc : Nat) (xs0 : List Int) (ra : Option Addr) (len0 rc : Nat) (w : World) (hT : TabD w) (hx : XRow w.heap.size w D la l) (hl : l.length ≤ 2600000000000) (hrd : Rd .i64 w ra len0 xs0) (hcap : len0 ≤ rc) :
    Calls Tryd.prog 4 #[.int .i64 K, .slice la l.length lc, .slice ra len0 rc] w fun e w' => e = .returned (.bool true) ∧ Below w.heap.size w w' := by
  obtain ⟨n, hn⟩ : ∃ n : Nat, (n : Int) = min (len0 : Int) 30 := ⟨min len0 30, by omega⟩
  have hmin := min_run len0 n 30 hn
  have hcut0 := cutI ra len0 rc n (by omega)
  obtain ⟨row, hrow⟩ : ∃ row, row = xs0.take n := ⟨_, rfl⟩
  have HRD : Hid (Rd .i64 w ra n row) := by rw [hrow]; exact hrd.take n (by omega)
  have HL : Hid (row.length = n) := HRD.out.1
  have hn30 : (n : Int) ≤ 30 := by omega
  obtain ⟨L, hL⟩ : ∃ L, L = l.length := ⟨_, rfl⟩
  have HTD : Hid (TabD w) := hT
  have HSH : Hid (Calls Tryd.prog 12 #[] w fun e w' => e = .returned (.bool true) ∧ Below w.heap.size w w') := shown_any w hT
  have HFEW : Hid (∀ V : World, Below w.heap.size w V → Calls Tryd.prog 13 #[.slice la L lc] V (FewP D l V)) := fun V hV => by
    rw [hL]; exact few_any D l la lc V ((hx.later hV).base hV.size) hl
  rw [← hL]
  clear hT hx hl hrd hcap hrow hL hn
  go_enter Tryd.func4, Tryd.ntmps4
  go_wp2_with fail
  refine HSH.out.mono ?_
  rintro e w1 ⟨rfl, hb1⟩
  have HB1 : Hid (Below w.heap.size w w1) := hb1
  have HC2 : Hid (Calls Tryd.prog 13 #[.slice la L lc] w1 (FewP D l w1)) := HFEW.out w1 hb1
  clear hb1 HSH HFEW
  go_wp2_with fail
  refine HC2.out.mono ?_
  intro e w2 hf
  obtain ⟨hb2, xs, a4, a5, c4, c5, rfl, h8, _, hx4, hx5⟩ := hf.use
  have HB2 : Hid (Below w.heap.size w w2) := HB1.out.trans (hb2.mono HB1.out.size)
  obtain ⟨N, hN⟩ : ∃ N, N = xs.length := ⟨_, rfl⟩
  have HN : Hid (N = xs.length ∧ N ≤ 8) := ⟨hN, by omega⟩
  have HX5 : Hid (XRow w2.heap.size w2 D a5 xs) := hx5
  have HC3 : Hid (Calls Tryd.prog 14 #[.int .i64 K, .slice a4 N c4] w2 (BldP K xs w2)) := by
    rw [hN]; exact build_any D K xs a4 c4 w2 (HTD.out.later HB2.out) hx4 (by omega)
  rw [← hN]
  clear hf hb2 h8 hx4 hx5 HC2 hN
  go_wp2_with fail
  refine HC3.out.mono ?_
  rintro e w3 ⟨hb3, hor⟩
  have HB3 : Hid (Below w.heap.size w w3) := HB2.out.trans (hb3.mono HB2.out.size)
  have HX3 : Hid (XRow w3.heap.size w3 D a5 xs) := (HX5.out.later hb3).base hb3.size
  clear hb3 HC3 HX5
  rcases hor with ⟨_, rfl⟩ | ⟨hal, ⟨rfl, _⟩ | ⟨lb, nx, ou, rfl, hma, hle, _⟩⟩
  · go_wp2_with fail
    go_ret
    exact ⟨rfl, HB3.out⟩
  · go_wp2_with fail
    go_ret
    exact ⟨rfl, HB3.out⟩
  simp only [alwB, Bool.and_eq_true, decide_eq_true_eq, List.all_eq_true] at hal
  obtain ⟨⟨⟨hk1, hk2⟩, _⟩, hall⟩ := hal
  obtain ⟨KN, rfl⟩ : ∃ KN : Nat, K = (KN : Int) := ⟨K.toNat, by omega⟩
  have HOK : Hid (∀ x, x ∈ xs → okN 32 x.1 = true) := fun x hx => ok_okN (hall x hx).1
  rw [show ((KN : Int)).toNat = KN by omega] at hma hle
  have HMA : Hid (MchAt w3 lb KN nx ou) := hma
  have HLE : Hid (LeastOf KN xs nx ou) := hle
  have HC4 : Hid (Calls Tryd.prog 18 #[.pointer (some ⟨lb, 0, none⟩), .slice ra n rc] w3 (RunP KN nx ou row w3)) := by
    have h := run_any w3 lb KN nx ou row ra rc hma hle.asMet hle.wide hle.len (by rw [HL.out]; exact HRD.out.later HB3.out) (by have := HL.out; omega)
    rw [HL.out] at h
    exact h
  clear hma hle hall
  go_wp2_with fail
  refine HC4.out.mono ?_
  rintro e w4 ⟨hb4, hor⟩
  have HB4 : Hid (Below w.heap.size w w4) := HB3.out.trans (hb4.mono HB3.out.size)
  have HM4 : Hid (MchAt w4 lb KN nx ou) := HMA.out.later hb4
  have HX4 : Hid (XRow w4.heap.size w4 D a5 xs) := (HX3.out.later hb4).base hb4.size
  have HRD4 : Hid (Rd .i64 w4 ra n row) := HRD.out.later HB4.out
  clear hb4 HC4 HMA HX3 HRD
  rcases hor with ⟨hnc, rfl⟩ | ⟨hcl, g, cap, rfl, how⟩
  · have HNC : Hid (¬ Cls KN row) := hnc
    clear hnc
    go_wp2_with fail
    go_loopw [14] (fun x14 wr => ∃ j : Nat, j ≤ n ∧ x14 = .int .i64 (j : Int) ∧ wr = w4 ∧ Cls KN (row.take j)) (fun x14 _ => n - (intOf x14).toNat)
    case atStart => exact ⟨0, by omega, rfl, rfl, fun c hc => by simp at hc⟩
    case round =>
      obtain ⟨j, hj, hx14, hwr, hc⟩ := hrel
      subst hx14
      obtain rfl : w4 = wr := hwr.symm
      have HC : Hid (Cls KN (row.take j)) := hc
      clear hc
      by_cases hlt : j < n
      · obtain ⟨b, off, rfl, hcc⟩ := HRD4.out.2 (by omega)
        have d3 := hcc j hlt
        have hjr : j < row.length := by rw [HL.out]; exact hlt
        obtain ⟨X, hX⟩ : ∃ X, X = row[j] := ⟨_, rfl⟩
        rw [show row.getD j 0 = X by rw [hX]; simp [List.getD_eq_getElem?_getD, hjr]] at d3
        have HX : Hid (X = row[j]) := hX
        clear hX hcc
        by_cases h0 : 0 ≤ X
        · by_cases h1 : X < (KN : Int)
          · have HC2 : Hid (Cls KN (row.take (j + 1))) := by
              intro c hc
              rw [take_snoc row j hjr] at hc
              rcases List.mem_append.1 hc with hc | hc
              · exact HC.out c hc
              · rw [List.mem_singleton.1 hc, ← HX.out]; exact ⟨h0, h1⟩
            go_wp2_with fail
            go_roundw
            case rel => exact ⟨j + 1, by omega, by go_num, trivial, HC2.out⟩
            case measure => simp [intOf]; omega
          · have h1' : (KN : Int) ≤ X := by omega
            go_wp2_with fail
            go_ret
            exact ⟨by simp, HB4.out⟩
        · have h0' : X < 0 := by omega
          go_wp2_with fail
          go_ret
          exact ⟨by simp, HB4.out⟩
      · have := HC.out
        rw [List.take_of_length_le (by rw [HL.out]; omega)] at this
        exact absurd this HNC.out
  rw [HL.out] at how ⊢
  have HCL : Hid (Cls KN row) := hcl
  have HOW : Hid (w4.ownsRow w3.heap.size 50 1 (.slice (some ⟨g, 0, none⟩) (n + 1) cap) (n + 1) (uv (runO nx ou (row.map Int.toNat) (n + 1)))) := how
  obtain ⟨O, hO⟩ : ∃ O : Nat → Nat, ∀ i, O i = ouR nx ou row i := ⟨_, fun _ => rfl⟩
  obtain ⟨S, hS⟩ : ∃ S : Nat → Nat, ∀ i, S i = stR nx row i := ⟨_, fun _ => rfl⟩
  have HO1 : Hid (∀ V : World, Below w4.heap.size w4 V → ∀ i, i < n + 1 → V.cell? ⟨g, i, none⟩ = some (.int .u64 ((O i : Nat) : Int))) := fun V hV i hi => by rw [hO]; exact run_told how hV i hi
  have HST : Hid (∀ V : World, Below w4.heap.size w4 V → ∀ j, j < n → Calls Tryd.prog 19 #[.pointer (some ⟨lb, 0, none⟩), .int .i64 ((S j : Nat) : Int), .int .i64 (row.getD j 0)] V fun e w' => e = .returned (.int .i64 ((S (j + 1) : Nat) : Int)) ∧ w' = V) := fun V hV j hj => by
    rw [hS, hS]; exact step_at (HM4.out.later hV) HLE.out HCL.out (by rw [HL.out]; exact hj)
  obtain ⟨M, hM⟩ : ∃ M, M = ou.length := ⟨_, rfl⟩
  have HSL : Hid (∀ i, S i < M) := fun i => by rw [hS, hM, HLE.out.len]; exact stR_lt HLE.out row i
  have HMO : Hid (∃ oa oo oc, ∀ V : World, Below w4.heap.size w4 V → V.cell? ⟨lb, 2, none⟩ = some (.slice (some ⟨oa, oo, none⟩) M oc) ∧ ∀ i, V.cell? ⟨oa, oo + S i, none⟩ = some (.int .u64 ((O i : Nat) : Int))) := by
    obtain ⟨oa, oo, oc, h1, h2⟩ := mch_out HM4.out (by rw [← hM]; exact Nat.lt_of_le_of_lt (Nat.zero_le _) (HSL.out 0))
    refine ⟨oa, oo, oc, fun V hV => ⟨upC hV (by rw [hM]; exact h1), fun i => upC hV ?_⟩⟩
    rw [h2 (S i) (by rw [← hM]; exact HSL.out i), hO, hS]
    rfl
  have HMX : Hid (M ≤ 1000000) := by obtain ⟨_, _, _, _, _, _, _, _, h, _⟩ := HM4.out; rw [hM]; exact h
  have HS0 : Hid (S 0 = 0) := by show S 0 = 0; rw [hS]; exact stR_zero nx row
  have HBT : Hid (∀ k (hk : k < xs.length) (G : List Bool), G.length = row.length + 1 → (xs[k].2 = true → EndsR xs[k].1.fits row (fromB row.length) G) → (xs[k].2 = false → EndsR xs[k].1.fits row (List.replicate (row.length + 1) true) G) → ∀ i, i ≤ n → O i / 2 ^ k % 2 = if G.getD i false = true then 1 else 0) := fun k hk G hG h1 h2 i hi => by
    rw [hO, bit_mod, bit_told HLE.out HCL.out (List.getElem?_eq_getElem hk) hG h1 h2 i (by rw [HL.out]; exact hi)]
  have HOL : Hid (∀ i, O i < 2 ^ 64) := fun i => by rw [hO]; exact least_lt HLE.out (by have := HN.out; omega) ((cls_nat HCL.out).2.take i)
  have HRD5 : Hid (∀ V : World, Below w4.heap.size w4 V → Rd .i64 V ra n row) := fun V hV => HRD4.out.later hV
  clear hcl how hO hS hM HOW HM4 HLE HRD4
  go_wp2_with fail
  go_loopw [14] (fun x14 wr => ∃ j : Nat, j ≤ n ∧ x14 = .int .i64 (j : Int) ∧ wr = w4) (fun x14 _ => n - (intOf x14).toNat)
  case atStart => exact ⟨0, by omega, rfl, rfl⟩
  case round =>
    obtain ⟨j, hj, hx14, hwr⟩ := hrel
    subst hx14
    obtain rfl : w4 = wr := hwr.symm
    by_cases hlt : j < n
    · obtain ⟨b, off, rfl, hcc⟩ := (HRD5.out w4 (Below.refl _ _)).2 (by omega)
      have d3 := hcc j hlt
      have hjr : j < row.length := by rw [HL.out]; exact hlt
      obtain ⟨X, hX⟩ : ∃ X, X = row[j] := ⟨_, rfl⟩
      rw [show row.getD j 0 = X by rw [hX]; simp [List.getD_eq_getElem?_getD, hjr]] at d3
      obtain ⟨h0, h1⟩ : 0 ≤ X ∧ X < (KN : Int) := by rw [hX]; exact HCL.out _ (List.getElem_mem hjr)
      clear hX hcc
      go_wp2_with fail
      go_roundw
      case rel => exact ⟨j + 1, by omega, by go_num, trivial⟩
      case measure => simp [intOf]; omega
    · obtain rfl : j = n := by omega
      go_wp2_with fail
      go_loopw [15, 16] (fun x15 x16 wz => ∃ i s : Nat, i ≤ j + 1 ∧ x16 = .int .i64 (i : Int) ∧ x15 = .int .i64 (s : Int) ∧ s = S (min i j) ∧ Below w4.heap.size w4 wz) (fun _ x16 _ => j + 1 - (intOf x16).toNat)
      case atStart => exact ⟨0, 0, by omega, rfl, rfl, by rw [Nat.zero_min]; exact HS0.out.symm, Below.refl _ _⟩
      case round =>
        obtain ⟨i, s, hi, hx16, hx15, hs, hwr⟩ := hrel
        subst hx16 hx15
        have HBW : Hid (Below w4.heap.size w4 wr) := hwr
        have HS : Hid (s = S (min i j)) := hs
        clear hs hwr
        by_cases hlt : i ≤ j
        · obtain ⟨oa, oo, oc, e0⟩ := HMO.out
          obtain ⟨e1, e2⟩ := e0 wr HBW.out
          have d2 := HO1.out wr HBW.out i (by omega)
          have d4 := e2 i
          have hsi : s = S i := by rw [HS.out, Nat.min_eq_left hlt]
          rw [← hsi] at d4
          obtain ⟨Y, hY⟩ : ∃ Y, Y = O i := ⟨_, rfl⟩
          rw [← hY] at d2 d4
          have hsM : (s : Int) < (M : Int) := by rw [hsi]; have := HSL.out i; omega
          have hs0 : (0 : Int) ≤ (s : Int) := by omega
          have hg1 : decide ((s : Int) < 0) = false := by simp
          have hg2 : decide (M ≤ s) = false := by simp; omega
          have hMi : (M : Int) ≤ 1000000 := by have := HMX.out; omega
          have hij : (i : Int) ≤ (j : Int) := by omega
          have hi0 : (0 : Int) ≤ (i : Int) := by omega
          have hi1 : (i : Int) < (j : Int) + 1 := by omega
          have HSI : Hid (s = S i) := hsi
          clear hsi hY e0 e2
          by_cases hl2 : i < j
          · obtain ⟨b, off, rfl, hc⟩ := (HRD5.out wr HBW.out).2 (by omega)
            obtain ⟨X, hX⟩ : ∃ X, X = row.getD i 0 := ⟨_, rfl⟩
            have HX3 : Hid (∀ V : World, Below w4.heap.size w4 V → V.cell? ⟨b, off + i, none⟩ = some (.int .i64 X)) := fun V hV => by
              obtain ⟨b', off', e', hc'⟩ := (HRD5.out V hV).2 (by omega)
              cases e'
              rw [hX]; exact hc' i hl2
            obtain ⟨t, ht⟩ : ∃ t, t = S (i + 1) := ⟨_, rfl⟩
            have HT : Hid (t = S (min (i + 1) j)) := by rw [Nat.min_eq_left (by omega)]; exact ht
            have HC : Hid (∀ V : World, Below w4.heap.size w4 V → Calls Tryd.prog 19 #[.pointer (some ⟨lb, 0, none⟩), .int .i64 (s : Int), .int .i64 X] V fun e w' => e = .returned (.int .i64 (t : Int)) ∧ w' = V) := fun V hV => by
              have h := HST.out V hV i hl2
              rw [← HSI.out, ← hX, ← ht] at h
              exact h
            have hl2i : (i : Int) < (j : Int) := by omega
            clear hc hX ht
            go_wp2_with fail
            go_quiet (fail)
            have d3 := HX3.out _ (bdN HBW.out nq)
            clear d2 d4 e1
            go_wp2_with fail
            refine (HC.out _ (bdN HBW.out nq)).mono ?_
            rintro e w6 ⟨rfl, hw6⟩
            subst hw6
            clear d3
            go_wp2_with fail
            go_roundw
            case rel => exact ⟨i + 1, t, by omega, by go_num, rfl, HT.out, bdN HBW.out _⟩
            case measure => simp [intOf]; omega
          · have hl2i : ¬ (i : Int) < (j : Int) := by omega
            have HT : Hid (s = S (min (i + 1) j)) := by
              have hij2 : i = j := by omega
              show s = S (min (i + 1) j)
              rw [Nat.min_eq_right (by omega), ← hij2]
              exact HSI.out
            go_wp2_with fail
            go_quiet (fail)
            clear d2 d4 e1
            go_wp2_with fail
            go_roundw
            case rel => exact ⟨i + 1, s, by omega, by go_num, rfl, HT.out, bdN HBW.out _⟩
            case measure => simp [intOf]; omega
        · have hlti : ¬ (i : Int) ≤ (j : Int) := by omega
          go_wp2_with fail
          go_loopw [17] (fun x17 wz => ∃ k : Nat, k ≤ N ∧ x17 = .int .i64 (k : Int) ∧ Below w4.heap.size w4 wz) (fun x17 _ => N - (intOf x17).toNat)
          case atStart => exact ⟨0, by omega, rfl, HBW.out⟩
          case round =>
            obtain ⟨k, hk, hx17, hwr⟩ := hrel
            subst hx17
            have HBK : Hid (Below w4.heap.size w4 wr) := hwr
            clear hwr
            by_cases hkN : k < N
            · have hkx : k < xs.length := by rw [← HN.out.1]; exact hkN
              obtain ⟨b, off, ca, cc, pa, pc, ea, hin, c0', c1', c2', c3'⟩ := HX4.out.cells hkx
              subst ea
              obtain ⟨x, hx⟩ : ∃ x, x = xs[k] := ⟨_, rfl⟩
              rw [← hx] at hin c0' c1' c2' c3'
              have HXK : Hid (x = xs[k]) := hx
              have hokx : okN 32 x.1 = true := HOK.out x (by rw [hx]; exact List.getElem_mem hkx)
              have HSU : Hid (∀ V : World, Below w4.heap.size w4 V → Calls Tryd.prog 20 #[.agg #[.int .i64 x.1.op, .slice ca x.1.cl.length cc, .slice pa (toL x.1.kids).length pc], .slice ra j rc] V (EnPost x.1.fits row (List.replicate (j + 1) true) (j + 1) V)) := fun V hV =>
                suffix_any D x.1 32 ca pa cc pc V row ra j rc ((hin.later hV D).base hV.size D) hokx (HRD5.out V hV) (by omega)
              have HWH : Hid (∀ V : World, Below w4.heap.size w4 V → Calls Tryd.prog 21 #[.agg #[.int .i64 x.1.op, .slice ca x.1.cl.length cc, .slice pa (toL x.1.kids).length pc], .slice ra j rc] V (EnPost x.1.fits row (fromB j) (j + 1) V)) := fun V hV =>
                whole_any D x.1 32 ca pa cc pc V row ra j rc ((hin.later hV D).base hV.size D) hokx (HRD5.out V hV) (by omega)
              obtain ⟨op, hop⟩ : ∃ op, op = x.1.op := ⟨_, rfl⟩
              obtain ⟨cn, hcn⟩ : ∃ cn, cn = x.1.cl.length := ⟨_, rfl⟩
              obtain ⟨pn, hpn⟩ : ∃ pn, pn = (toL x.1.kids).length := ⟨_, rfl⟩
              rw [← hop] at HSU HWH c0'
              rw [← hcn] at HSU HWH c1'
              rw [← hpn] at HSU HWH c2'
              have HCC : Hid (∀ V : World, Below w4.heap.size w4 V → V.cell? ⟨b, off + k * 4, none⟩ = some (.int .i64 op) ∧ V.cell? ⟨b, off + k * 4 + 1, none⟩ = some (.slice ca cn cc) ∧ V.cell? ⟨b, off + k * 4 + 2, none⟩ = some (.slice pa pn pc) ∧ V.cell? ⟨b, off + k * 4 + 3, none⟩ = some (.bool x.2)) := fun V hV => ⟨upC hV c0', upC hV c1', upC hV c2', upC hV c3'⟩
              have hkNi : (k : Int) < (N : Int) := by omega
              have hNi : (N : Int) ≤ 8 := by have := HN.out.2; omega
              clear hin c0' c1' c2' c3' hokx hx hop hcn hpn
              obtain ⟨c0, c1, c2, c3⟩ := HCC.out wr HBK.out
              go_wp2_with fail
              refine (HSU.out wr HBK.out).mono ?_
              rintro e w7 ⟨v, G, rfl, hG, hE, hb7⟩
              have HB7 : Hid (Below w4.heap.size w4 w7) := HBK.out.trans (hb7.mono HBK.out.size)
              have HE7 : Hid (EndsR x.1.fits row (List.replicate (j + 1) true) G) := hE
              have HG7 : Hid (w7.ownsRow wr.heap.size 4 1 v (j + 1) (G.map Value.bool)) := hG
              clear hG hE hb7 c0 c1 c2 c3
              obtain ⟨c0, c1, c2, c3⟩ := HCC.out w7 HB7.out
              have HFIN : Hid (∀ (V : World) (v : Value) (G : List Bool), Below w4.heap.size w4 V → V.ownsRow w4.heap.size 4 1 v (j + 1) (G.map Value.bool) → (x.2 = true → EndsR x.1.fits row (fromB row.length) G) → (x.2 = false → EndsR x.1.fits row (List.replicate (row.length + 1) true) G) → ∃ fa fc, v = .slice (some fa) (j + 1) fc ∧ fa.spot = none ∧ ∀ Z : World, Below V.heap.size V Z → ∀ i, i < j + 1 → ∃ t : Bool, Z.cell? ⟨fa.block, fa.off + i, none⟩ = some (.bool t) ∧ O i / 2 ^ k % 2 = if t = true then 1 else 0) := fun V v G hV hG h1 h2 => by
                obtain ⟨fa, fc, rfl, _, _, hr⟩ := rdT_own hG
                obtain ⟨b', off', rfl, hc⟩ := hr.2 (by omega)
                refine ⟨⟨b', off', none⟩, fc, rfl, rfl, fun Z hZ i hi => ⟨G.getD i false, upC hZ (hc i hi), ?_⟩⟩
                have hGl := hr.1
                rw [HXK.out] at h1 h2
                exact HBT.out k hkx G (by rw [hGl, HL.out]) h1 h2 i (by omega)
              cases hw : x.2 with
              | false =>
                rw [hw] at c3
                obtain ⟨fa, fc, rfl, hsp, hfin⟩ := HFIN.out w7 v G HB7.out (own_up HG7.out HBK.out.size) (fun h => by rw [hw] at h; cases h) (fun _ => by rw [HL.out]; exact HE7.out)
                obtain ⟨fb, fo, fsp⟩ := fa
                simp only at hsp hfin
                subst hsp
                have HFF : Hid (∀ Z : World, Below w7.heap.size w7 Z → ∀ i, i < j + 1 → ∃ t : Bool, Z.cell? ⟨fb, fo + i, none⟩ = some (.bool t) ∧ O i / 2 ^ k % 2 = if t = true then 1 else 0) := hfin
                clear hfin hw
                go_wp2_with fail
                go_loopw [19] (fun x19 wz => ∃ i : Nat, i ≤ j + 1 ∧ x19 = .int .i64 (i : Int) ∧ Below w7.heap.size w7 wz) (fun x19 _ => j + 1 - (intOf x19).toNat)
                case atStart => exact ⟨0, by omega, rfl, Below.refl _ _⟩
                case round =>
                  obtain ⟨q, hq, hx19, hwr⟩ := hrel
                  subst hx19
                  have HBQ : Hid (Below w7.heap.size w7 wr) := hwr
                  have HBQ4 : Hid (Below w4.heap.size w4 wr) := HB7.out.trans (hwr.mono HB7.out.size)
                  clear hwr c0 c1 c2 c3
                  by_cases hqj : q ≤ j
                  · have d1 := HO1.out wr HBQ4.out q (by omega)
                    obtain ⟨t, d2, hbit⟩ := HFF.out wr HBQ.out q (by omega)
                    obtain ⟨Y, hY⟩ : ∃ Y, Y = O q := ⟨_, rfl⟩
                    rw [← hY] at d1 hbit
                    have hbe := bit_eq hbit
                    have hqi : (q : Int) ≤ (j : Int) := by omega
                    have hq0 : (0 : Int) ≤ (q : Int) := by omega
                    have hq1 : (q : Int) < (j : Int) + 1 := by omega
                    clear hY hbit
                    go_wp2_with fail
                    go_quiet (fail)
                    clear d1 d2
                    go_wp2_with fail
                    go_roundw
                    case rel => exact ⟨q + 1, by omega, by go_num, bdN HBQ.out _⟩
                    case measure => simp [intOf]; omega
                  · have hqi : ¬ (q : Int) ≤ (j : Int) := by omega
                    go_wp2_with fail
                    go_roundw
                    case rel => exact ⟨k + 1, by omega, by go_num, HBQ4.out⟩
                    case measure => simp [intOf]; omega
              | true =>
                rw [hw] at c3
                have HW : Hid (x.2 = true) := hw
                clear hw
                obtain ⟨va, vc, rfl, _⟩ := rdT_own HG7.out
                go_wp2_with fail
                refine (HWH.out w7 HB7.out).mono ?_
                rintro e w8 ⟨v8, G8, rfl, hG, hE, hb8⟩
                have HB8 : Hid (Below w4.heap.size w4 w8) := HB7.out.trans (hb8.mono HB7.out.size)
                obtain ⟨fa, fc, rfl, hsp, hfin⟩ := HFIN.out w8 v8 G8 HB8.out (own_up hG HB7.out.size) (fun _ => by rw [HL.out]; exact hE) (fun h => by rw [HW.out] at h; cases h)
                obtain ⟨fb, fo, fsp⟩ := fa
                simp only at hsp hfin
                subst hsp
                have HFF : Hid (∀ Z : World, Below w8.heap.size w8 Z → ∀ i, i < j + 1 → ∃ t : Bool, Z.cell? ⟨fb, fo + i, none⟩ = some (.bool t) ∧ O i / 2 ^ k % 2 = if t = true then 1 else 0) := hfin
                clear hfin hG hE hb8 c0 c1 c2 c3
                go_wp2_with fail
                go_loopw [19] (fun x19 wz => ∃ i : Nat, i ≤ j + 1 ∧ x19 = .int .i64 (i : Int) ∧ Below w8.heap.size w8 wz) (fun x19 _ => j + 1 - (intOf x19).toNat)
                case atStart => exact ⟨0, by omega, rfl, Below.refl _ _⟩
                case round =>
                  obtain ⟨q, hq, hx19, hwr⟩ := hrel
                  subst hx19
                  have HBQ : Hid (Below w8.heap.size w8 wr) := hwr
                  have HBQ4 : Hid (Below w4.heap.size w4 wr) := HB8.out.trans (hwr.mono HB8.out.size)
                  clear hwr
                  by_cases hqj : q ≤ j
                  · have d1 := HO1.out wr HBQ4.out q (by omega)
                    obtain ⟨t, d2, hbit⟩ := HFF.out wr HBQ.out q (by omega)
                    obtain ⟨Y, hY⟩ : ∃ Y, Y = O q := ⟨_, rfl⟩
                    rw [← hY] at d1 hbit
                    have hbe := bit_eq hbit
                    have hqi : (q : Int) ≤ (j : Int) := by omega
                    have hq0 : (0 : Int) ≤ (q : Int) := by omega
                    have hq1 : (q : Int) < (j : Int) + 1 := by omega
                    clear hY hbit
                    go_wp2_with fail
                    go_quiet (fail)
                    clear d1 d2
                    go_wp2_with fail
                    go_roundw
                    case rel => exact ⟨q + 1, by omega, by go_num, bdN HBQ.out _⟩
                    case measure => simp [intOf]; omega
                  · have hqi : ¬ (q : Int) ≤ (j : Int) := by omega
                    go_wp2_with fail
                    go_roundw
                    case rel => exact ⟨k + 1, by omega, by go_num, HBQ4.out⟩
                    case measure => simp [intOf]; omega
            · go_wp2_with fail
              have HBE : Hid (Below w.heap.size w wr) := HB4.out.trans (HBK.out.mono HB4.out.size)
              go_ret
              exact ⟨rfl, HBE.out⟩
end Go.Proofs.YtpmmmgjiekikeaaDoor
