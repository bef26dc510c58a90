/- In one text: DfaRa, DfaRb, DfaRc. -/
import Derived.Test.YtpmmmgjiekikeaaDoorJ17
/- The walk of Run. -/
namespace Go.Proofs.YtpmmmgjiekikeaaDoor
open Go.RowKit Go.Shelf Go.Maps
set_option linter.unusedVariables false
set_option linter.unusedSimpArgs false

theorem MchAt.later {w w' : World} {bm K : Nat} {nx : List (List Nat)} {ou : List Nat} (h : MchAt w bm K nx ou) (hb : Below w.heap.size w w') : MchAt w' bm K nx ou := by
  obtain ⟨na, nc, oa, oc, h1, h2, h3, h4⟩ := h
  refine ⟨na, nc, oa, oc, (hb.block bm (Array.getElem?_eq_some_iff.1 h1).1).trans h1, fun hp => ?_, h3.later hb, h4⟩
  obtain ⟨b, off, e, hk⟩ := h2 hp
  refine ⟨b, off, e, fun i hi => ?_⟩
  obtain ⟨ra, rc, k1, k2⟩ := hk i hi
  exact ⟨ra, rc, upC hb k1, k2.later hb⟩
theorem make_uc (n : Nat) (hn : n ≤ 100000) (W : World) : (Instr.makeSlice 44 (.int .i64 0) (.int .i64 ((n : Int) + 1))).run Tryd.prog W = .ok (.slice (some ⟨W.heap.size, 0, none⟩) 0 (n + 1)) (W.alloc (.cells (uv (List.replicate (n + 1) 0)).toArray 50)) := by
  obtain ⟨i0, hi, hz0, hz1, hz2⟩ := info_parts info_u64
  have := run_make (P := Tryd.prog) W 44 50 i0 _ Tryd.underlying44 hi hz0 .i64 .i64 (0 : Int) ((n : Int) + 1) (by omega) (by omega) (by rw [hz2]; omega) (by omega)
  rw [show ((n : Int) + 1).toNat = n + 1 by omega, hz1, made_u] at this
  exact this
/-- What a machine tells behind each beginning. -/
def runO (nx : List (List Nat)) (ou : List Nat) (rs : List Nat) (k : Nat) : List Nat := (List.range k).map (fun i => ou.getD (runM nx 0 (rs.take i)) 0)
theorem runO_snoc (nx : List (List Nat)) (ou rs : List Nat) (k : Nat) : runO nx ou rs (k + 1) = runO nx ou rs k ++ [ou.getD (runM nx 0 (rs.take k)) 0] := by simp [runO, List.range_succ]
/-- Each class is one. -/
def Cls (K : Nat) (row : List Int) : Prop := ∀ c, c ∈ row → 0 ≤ c ∧ c < (K : Int)
/-- What Run leaves. -/
def RunP (K : Nat) (nx : List (List Nat)) (ou : List Nat) (row : List Int) (w : World) (e : Ending) (w' : World) : Prop :=
  Below w.heap.size w w' ∧ ((¬ Cls K row ∧ e = .returned (.tuple #[.slice none 0 0, .int .i64 1])) ∨ (Cls K row ∧ ∃ g cap, e = .returned (.tuple #[.slice (some ⟨g, 0, none⟩) (row.length + 1) cap, .int .i64 0]) ∧ w'.ownsRow w.heap.size 50 1 (.slice (some ⟨g, 0, none⟩) (row.length + 1) cap) (row.length + 1) (uv (runO nx ou (row.map Int.toNat) (row.length + 1)))))
set_option maxRecDepth 100000 in
set_option maxHeartbeats 8000000 in
theorem run_any (w : World) (bm K : Nat) (nx : List (List Nat)) (ou : List Nat) (row : List Int) (a : Option Addr) (cp : Nat) (h : MchAt w bm K nx ou) (hA : AsMet nx) (hW : Wide K nx) (hlo : ou.length = nx.length) (hr : Rd .i64 w a row.length row) (hl : row.length ≤ 1000) :
    Calls Tryd.prog 18 #[.pointer (some ⟨bm, 0, none⟩), .slice a row.length cp] w (RunP K nx ou row w) := by
  obtain ⟨n, hn⟩ : ∃ n, n = row.length := ⟨_, rfl⟩
  have HN : Hid (n = row.length) := hn
  have hni : (n : Int) ≤ 1000 := by omega
  have HMA : Hid (MchAt w bm K nx ou) := h
  have HFA : Hid (AsMet nx ∧ Wide K nx ∧ ou.length = nx.length ∧ 0 < nx.length) := ⟨hA, hW, hlo, asMet_pos hA⟩
  have HRD : Hid (Rd .i64 w a n row) := by rw [hn]; exact hr
  have hmk := make_uc n (by omega)
  have HRE : Hid (∀ (V : World) (c : Int), Below w.heap.size w V → Calls Tryd.prog 35 #[.pointer (some ⟨bm, 0, none⟩), .int .i64 c] V fun e w' => e = .returned (.bool (decide (0 ≤ c) && decide (c < (K : Int)))) ∧ w' = V) := fun V c hV => reads_any V bm K nx ou c (h.later hV)
  have HFI : Hid (∀ (V : World) (s : Nat), s < nx.length → Below w.heap.size w V → Calls Tryd.prog 36 #[.pointer (some ⟨bm, 0, none⟩), .int .i64 (s : Int)] V fun e w' => e = .returned (.int .u64 (ou.getD s 0 : Nat)) ∧ w' = V) := fun V s hs hV => fit_any V bm K nx ou s (h.later hV) (by rw [hlo]; exact hs)
  have HST : Hid (∀ (V : World) (s c : Nat), s < nx.length → c < K → Below w.heap.size w V → Calls Tryd.prog 19 #[.pointer (some ⟨bm, 0, none⟩), .int .i64 (s : Int), .int .i64 (c : Int)] V fun e w' => e = .returned (.int .i64 (nxt nx s c : Nat)) ∧ w' = V) := fun V s c hs hc hV => step_mch V bm K nx ou s c (h.later hV) hs hc (by rw [show nx.getD s [] = nx[s] by simp [List.getD_eq_getElem?_getD, hs]]; exact hW _ (List.getElem_mem hs))
  obtain ⟨i0, ji, jz0, jz1, jz2⟩ := info_parts info_u64
  have HJ : Hid (Tryd.prog.info? 50 = some i0 ∧ i0.zero = some (.int .u64 0) ∧ i0.size = 1 ∧ i0.bytes = 8) := ⟨ji, jz0, jz1, jz2⟩
  rw [← hn]
  clear h hA hW hlo hr hl hn ji jz0 jz1 jz2
  go_enter Tryd.func18, Tryd.ntmps18
  go_wp2_with fail
  go_loopw [14] (fun x14 wr => ∃ k : Nat, k ≤ n ∧ x14 = .int .i64 (k : Int) ∧ wr = w ∧ Cls K (row.take k)) (fun x14 _ => n - (intOf x14).toNat)
  case atStart => exact ⟨0, by omega, rfl, rfl, fun c hc => by simp at hc⟩
  case round =>
    obtain ⟨k, hk, hx14, hwr, hcl⟩ := hrel
    subst hx14
    obtain rfl : w = wr := hwr.symm
    have HCL : Hid (Cls K (row.take k)) := hcl
    clear hcl
    by_cases hlt : k < n
    · have hkr : k < row.length := by rw [← HN.out]; exact hlt
      obtain ⟨b, off, rfl, hc⟩ := HRD.out.2 (by omega)
      have a0 := hc k hlt
      obtain ⟨X, hX⟩ : ∃ X, X = row[k] := ⟨_, rfl⟩
      rw [show row.getD k 0 = X by rw [hX]; simp [List.getD_eq_getElem?_getD, hkr]] at a0
      have HX : Hid (X = row[k]) := hX
      clear hX hc
      have HC := HRE.out w X (Below.refl _ _)
      by_cases hg : 0 ≤ X ∧ X < (K : Int)
      · rw [show (decide (0 ≤ X) && decide (X < (K : Int))) = true by simp [hg]] at HC
        have HCC : Hid (Calls Tryd.prog 35 #[.pointer (some ⟨bm, 0, none⟩), .int .i64 X] w fun e w' => e = .returned (.bool true) ∧ w' = w) := HC
        have HCL2 : Hid (Cls K (row.take (k + 1))) := by
          intro c hc
          rw [take_snoc row k hkr] at hc
          rcases List.mem_append.1 hc with hc | hc
          · exact HCL.out c hc
          · rw [List.mem_singleton.1 hc, ← HX.out]; exact hg
        clear HC hg
        go_wp2_with fail
        refine HCC.out.mono ?_
        rintro e w1 ⟨rfl, hw1⟩
        subst hw1
        go_wp2_with fail
        go_roundw
        case rel => exact ⟨k + 1, by omega, by go_num, trivial, HCL2.out⟩
        case measure => simp [intOf]; omega
      · rw [show (decide (0 ≤ X) && decide (X < (K : Int))) = false by simp; omega] at HC
        have HCC : Hid (Calls Tryd.prog 35 #[.pointer (some ⟨bm, 0, none⟩), .int .i64 X] w fun e w' => e = .returned (.bool false) ∧ w' = w) := HC
        have HF : Hid (¬ Cls K row) := fun hh => hg (by rw [HX.out]; exact hh _ (List.getElem_mem hkr))
        clear HC hg
        go_wp2_with fail
        refine HCC.out.mono ?_
        rintro e w1 ⟨rfl, hw1⟩
        subst hw1
        go_wp2_with fail
        go_ret2
        exact ⟨Below.refl _ _, .inl ⟨HF.out, rfl⟩⟩
    · obtain rfl : k = n := by omega
      have HALL : Hid (Cls K row) := by
        have := HCL.out
        rw [List.take_of_length_le (by rw [← HN.out]; exact Nat.le_refl _)] at this
        exact this
      clear HCL
      obtain ⟨rs, hrs⟩ : ∃ rs, rs = row.map Int.toNat := ⟨_, rfl⟩
      have HRS : Hid (rs = row.map Int.toNat ∧ rs.length = k) := ⟨hrs, by rw [hrs, List.length_map, HN.out]⟩
      clear hrs
      obtain ⟨w1, hw1⟩ : ∃ w1, w1 = w.alloc (.cells (uv (List.replicate (k + 1) 0)).toArray 50) := ⟨_, rfl⟩
      obtain ⟨G, hG⟩ : ∃ G, G = w.heap.size := ⟨_, rfl⟩
      have HB1 : Hid (Below w.heap.size w w1) := by rw [hw1]; exact (Below.refl _ w).alloc (Nat.le_refl _) _
      have HO1 : Hid (w1.ownsRow w.heap.size 50 1 (.slice (some ⟨G, 0, none⟩) 0 (k + 1)) 0 (uv [])) := by
        refine ⟨rfl, .inr ⟨G, k + 1, (uv (List.replicate (k + 1) 0)).toArray, rfl, by omega, by rw [hw1, hG]; exact heap_alloc_new w _, by omega, ?_, by simp [uv], by simp [uv]⟩⟩
        all_goals (first | omega | (unfold maxLen; omega))
      obtain ⟨Y, hY⟩ : ∃ Y, Y = ou.getD 0 0 := ⟨_, rfl⟩
      have HY : Hid (Y = ou.getD 0 0) := hY
      have HC : Hid (Calls Tryd.prog 36 #[.pointer (some ⟨bm, 0, none⟩), .int .i64 0] w1 fun e w' => e = .returned (.int .u64 (Y : Int)) ∧ w' = w1) := by rw [hY]; exact HFI.out w1 0 HFA.out.2.2.2 HB1.out
      clear hY
      go_upto_region 9 with fail
      rw [← hG, ← hw1]
      clear hG hw1 hmk
      go_wp2_with fail
      refine HC.out.mono ?_
      rintro e w1' ⟨rfl, hw1'⟩
      subst hw1'
      go_upto_region 10 with (at_builtin; refine wpList_append_lies _ rfl _ _ 44 rfl w.heap.size 50 i0 _ 1 8 Tryd.underlying44 HJ.out.1 HJ.out.2.1 HJ.out.2.2.1 HJ.out.2.2.2 rfl (by decide) (.slice (some ⟨G, 0, none⟩) 0 (k + 1)) (0) (uv []) rfl (own_later5 HO1.out ((Below.refl _ w1').alloc (Nat.le_refl _) _)) ⟨w1'.heap.size, 0, none⟩ 1 1 [.int .u64 (Y : Int)] rfl rfl (World.news_of_block (cs := #[.int .u64 (Y : Int)]) (t := 50) (fr := (0, 0)) (heap_alloc_new w1' _)) (by simp [Value.oneCell']) (by omega) (by unfold maxLen; omega) (by omega) (by have := HB1.out.size; simp; omega) _ rfl (fun g2 cap2 w2 q1 q2 q3 q4 => ?_); have HF2 : Hid (w2.ownsRow w.heap.size 50 1 (.slice (some ⟨g2, 0, none⟩) (0 + 1) cap2) (0 + 1) (uv [] ++ [.int .u64 (Y : Int)]) ∧ Below w.heap.size w w2) := ⟨q1, (HB1.out.alloc HB1.out.size _).grown q2 (Nat.le_trans HB1.out.size (by simp)) (fun k e => (own_lt HO1.out e).1)⟩; clear q1 q2 q3 q4)
      have HO2 : Hid (w2.ownsRow w.heap.size 50 1 (.slice (some ⟨g2, 0, none⟩) (0 + 1) cap2) (0 + 1) (uv (runO nx ou rs (0 + 1)))) := by
        have h1 := HF2.out.1
        rw [HY.out] at h1
        rw [runO_snoc]
        exact h1
      have HB2 : Hid (Below w.heap.size w w2) := HF2.out.2
      clear HF2 HC
      go_wp2_with fail
      go_loopw [8, 9, 35] (fun x8 x9 x35 wz => ∃ j s g cap : Nat, j ≤ k ∧ x35 = .int .i64 (j : Int) ∧ x8 = .int .i64 (s : Int) ∧ s = runM nx 0 (rs.take j) ∧ x9 = .slice (some ⟨g, 0, none⟩) (j + 1) cap ∧ wz.ownsRow w.heap.size 50 1 (.slice (some ⟨g, 0, none⟩) (j + 1) cap) (j + 1) (uv (runO nx ou rs (j + 1))) ∧ Below w.heap.size w wz) (fun _ _ x35 _ => k - (intOf x35).toNat)
      case atStart => exact ⟨0, 0, g2, cap2, by omega, rfl, rfl, rfl, rfl, HO2.out, HB2.out⟩
      case round =>
        obtain ⟨j, s, g, cap, hj, hx35, hx8, hs, hx9, ho, hb⟩ := hrel
        subst hx35 hx8 hx9
        have HS : Hid (s = runM nx 0 (rs.take j) ∧ s < nx.length) := ⟨hs, by rw [hs]; exact runM_lt HFA.out.1 HFA.out.2.2.2 _ _ HFA.out.2.2.2⟩
        have HO : Hid (wr.ownsRow w.heap.size 50 1 (.slice (some ⟨g, 0, none⟩) (j + 1) cap) (j + 1) (uv (runO nx ou rs (j + 1)))) := ho
        have HB : Hid (Below w.heap.size w wr) := hb
        clear hs ho hb HO2 HB2
        by_cases hlt2 : j < k
        · have hjr : j < row.length := by rw [← HN.out]; exact hlt2
          obtain ⟨b, off, rfl, hc⟩ := HRD.out.2 (by omega)
          have a0 := upC HB.out (hc j hlt2)
          have hX := HALL.out row[j] (List.getElem_mem hjr)
          obtain ⟨c, hcX⟩ : ∃ c : Nat, row[j] = (c : Int) := ⟨row[j].toNat, by omega⟩
          rw [show row.getD j 0 = (c : Int) by rw [← hcX]; simp [List.getD_eq_getElem?_getD, hjr]] at a0
          have hcK : c < K := by rw [hcX] at hX; omega
          have hrj : rs[j]? = some c := by rw [HRS.out.1, List.getElem?_map, List.getElem?_eq_getElem hjr, hcX]; simp
          have HCS : Hid (Calls Tryd.prog 19 #[.pointer (some ⟨bm, 0, none⟩), .int .i64 (s : Int), .int .i64 (c : Int)] wr fun e w' => e = .returned (.int .i64 (nxt nx s c : Nat)) ∧ w' = wr) := HST.out wr s c HS.out.2 hcK HB.out
          obtain ⟨t, ht⟩ : ∃ t, t = nxt nx s c := ⟨_, rfl⟩
          rw [← ht] at HCS
          have HTT : Hid (t = runM nx 0 (rs.take (j + 1)) ∧ t < nx.length) := by
            have hjl : j < rs.length := by rw [HRS.out.2]; exact hlt2
            have h1 : t = runM nx 0 (rs.take (j + 1)) := by
              rw [take_snoc rs j hjl, runM_app, ← HS.out.1, ht, show rs[j] = c by rw [List.getElem?_eq_getElem hjl] at hrj; exact Option.some.inj hrj]
              rfl
            exact ⟨h1, by rw [h1]; exact runM_lt HFA.out.1 HFA.out.2.2.2 _ _ HFA.out.2.2.2⟩
          obtain ⟨Y, hY⟩ : ∃ Y, Y = ou.getD t 0 := ⟨_, rfl⟩
          have HY : Hid (Y = ou.getD t 0) := hY
          have HCF : Hid (Calls Tryd.prog 36 #[.pointer (some ⟨bm, 0, none⟩), .int .i64 (t : Int)] wr fun e w' => e = .returned (.int .u64 (Y : Int)) ∧ w' = wr) := by rw [hY]; exact HFI.out wr t HTT.out.2 HB.out
          clear hc hX hcX hcK hrj ht hY
          go_wp2_with fail
          refine HCS.out.mono ?_
          rintro e w3 ⟨rfl, hw3⟩
          obtain rfl : wr = w3 := hw3.symm
          go_wp2_with fail
          refine HCF.out.mono ?_
          rintro e w3 ⟨rfl, hw3⟩
          obtain rfl : wr = w3 := hw3.symm
          clear HCS HCF a0
          obtain ⟨R1, hR1⟩ : ∃ R1, R1 = runO nx ou rs (j + 1) := ⟨_, rfl⟩
          have HR1 : Hid (R1 = runO nx ou rs (j + 1)) := hR1
          obtain ⟨q, hq⟩ : ∃ q, q = j + 1 := ⟨_, rfl⟩
          have HQ : Hid (q = j + 1) := hq
          have hqk : q ≤ k := by omega
          rw [← hR1, ← hq] at HO
          rw [← hq]
          clear hR1 hq
          go_wp2_with (at_builtin; refine wpList_append_lies _ rfl _ _ 44 rfl w.heap.size 50 i0 _ 1 8 Tryd.underlying44 HJ.out.1 HJ.out.2.1 HJ.out.2.2.1 HJ.out.2.2.2 rfl (by decide) (.slice (some ⟨g, 0, none⟩) q cap) q (uv R1) rfl (own_later5 HO.out ((Below.refl _ wr).alloc (Nat.le_refl _) _)) ⟨wr.heap.size, 0, none⟩ 1 1 [.int .u64 (Y : Int)] rfl rfl (World.news_of_block (cs := #[.int .u64 (Y : Int)]) (t := 50) (fr := (0, 0)) (heap_alloc_new wr _)) (by simp [Value.oneCell']) (by omega) (by unfold maxLen; omega) (by omega) (by have := HB.out.size; simp; omega) _ rfl (fun g5 cap5 w5 q1 q2 q3 q4 => ?_); have HF5 : Hid (w5.ownsRow w.heap.size 50 1 (.slice (some ⟨g5, 0, none⟩) (q + 1) cap5) (q + 1) (uv R1 ++ [.int .u64 (Y : Int)]) ∧ Below w.heap.size w w5) := ⟨q1, (HB.out.alloc HB.out.size _).grown q2 (Nat.le_trans HB.out.size (by simp)) (fun k e => (own_lt HO.out e).1)⟩; clear q1 q2 q3 q4)
          have HOF : Hid (w5.ownsRow w.heap.size 50 1 (.slice (some ⟨g5, 0, none⟩) (j + 1 + 1) cap5) (j + 1 + 1) (uv (runO nx ou rs (j + 1 + 1))) ∧ Below w.heap.size w w5) := by
            obtain ⟨h1, h2⟩ := HF5.out
            rw [HR1.out, HQ.out, HY.out, HTT.out.1] at h1
            rw [runO_snoc nx ou rs (j + 1)]
            exact ⟨by simpa [uv] using h1, h2⟩
          clear HF5
          go_roundw
          case rel => exact ⟨j + 1, t, g5, cap5, by omega, by go_num, rfl, HTT.out.1, by rw [HQ.out], HOF.out⟩
          case measure => simp [intOf]; omega
        · obtain rfl : j = k := by omega
          have HOF : Hid (wr.ownsRow w.heap.size 50 1 (.slice (some ⟨g, 0, none⟩) (row.length + 1) cap) (row.length + 1) (uv (runO nx ou (row.map Int.toNat) (row.length + 1)))) := by
            have h1 := HO.out
            rw [HRS.out.1, HN.out] at h1
            exact h1
          go_wp2_with fail
          go_ret2
          refine ⟨HB.out, .inr ⟨HALL.out, g, cap, ?_, HOF.out⟩⟩
          rw [← HN.out]
          rfl
end Go.Proofs.YtpmmmgjiekikeaaDoor

/- The walks of slices.Equal. -/
namespace Go.Proofs.YtpmmmgjiekikeaaDoor
open Go.RowKit Go.Shelf Go.Maps
set_option linter.unusedVariables false
set_option linter.unusedSimpArgs false

set_option maxRecDepth 100000 in
set_option maxHeartbeats 4000000 in
theorem eq_i64 (xs ys : List Int) (a b : Option Addr) (ca cb : Nat) (w : World) (hx : Rd .i64 w a xs.length xs) (hy : Rd .i64 w b ys.length ys) (hl : xs.length ≤ 1000000) (hl2 : ys.length ≤ 1000000) :
    Calls Tryd.prog 40 #[.slice a xs.length ca, .slice b ys.length cb] w fun e w' => e = .returned (.bool (decide (xs = ys))) ∧ Below w.heap.size w w' := by
  obtain ⟨n, hn⟩ : ∃ n, n = xs.length := ⟨_, rfl⟩
  obtain ⟨m, hm⟩ : ∃ m, m = ys.length := ⟨_, rfl⟩
  obtain ⟨R, hR⟩ : ∃ R, R = decide (xs = ys) := ⟨_, rfl⟩
  have HN : Hid (n = xs.length ∧ m = ys.length ∧ R = decide (xs = ys)) := ⟨hn, hm, hR⟩
  have HX : Hid (Rd .i64 w a n xs) := by rw [hn]; exact hx
  have HY : Hid (Rd .i64 w b m ys) := by rw [hm]; exact hy
  have hni : (n : Int) ≤ 1000000 := by omega
  have hmi : (m : Int) ≤ 1000000 := by omega
  rw [← hn, ← hm, ← hR]
  clear hx hy hl hl2 hn hm hR
  by_cases hnm : (n : Int) = (m : Int)
  · obtain rfl : n = m := by omega
    clear hnm
    go_enter Tryd.func40, Tryd.ntmps40
    go_wp2_with fail
    go_loopw [13] (fun x13 wr => ∃ k : Nat, k ≤ n ∧ x13 = .int .i64 (k : Int) ∧ xs.take k = ys.take k ∧ Below w.heap.size w wr) (fun x13 _ => n - (intOf x13).toNat)
    case atStart => exact ⟨0, by omega, rfl, rfl, Below.refl _ _⟩
    case round =>
      obtain ⟨k, hk, hx13, hs, hb⟩ := hrel
      subst hx13
      have HS : Hid (xs.take k = ys.take k) := hs
      have HB : Hid (Below w.heap.size w wr) := hb
      clear hs hb
      by_cases hlt : k < n
      · have hkx : k < xs.length := by rw [← HN.out.1]; exact hlt
        have hky : k < ys.length := by rw [← HN.out.2.1]; exact hlt
        obtain ⟨b1, o1, rfl, hc1⟩ := HX.out.2 (by omega)
        obtain ⟨b2, o2, rfl, hc2⟩ := HY.out.2 (by omega)
        have a1 := upC HB.out (hc1 k hlt)
        have a2 := upC HB.out (hc2 k hlt)
        obtain ⟨X, hX⟩ : ∃ X, X = xs[k] := ⟨_, rfl⟩
        obtain ⟨Y, hY⟩ : ∃ Y, Y = ys[k] := ⟨_, rfl⟩
        rw [show xs.getD k 0 = X by rw [hX]; simp [List.getD_eq_getElem?_getD, hkx]] at a1
        rw [show ys.getD k 0 = Y by rw [hY]; simp [List.getD_eq_getElem?_getD, hky]] at a2
        have HXY : Hid (X = xs[k] ∧ Y = ys[k]) := ⟨hX, hY⟩
        clear hX hY hc1 hc2
        have HBD : Hid (Below w.heap.size w wr.drew) := HB.out.drew
        by_cases hxy : X = Y
        · have HS2 : Hid (xs.take (k + 1) = ys.take (k + 1)) := by
            show _ = _
            rw [take_snoc xs k hkx, take_snoc ys k hky, HS.out, ← HXY.out.1, ← HXY.out.2, hxy]
          subst hxy
          go_wp2_with fail
          go_region
          all_goals
            go_wp2_with fail
            go_roundw
            case rel => exact ⟨k + 1, by omega, by go_num, HS2.out, HBD.out⟩
            case measure => simp [intOf]; omega
        · have hRf : R = false := by
            rw [HN.out.2.2]
            refine decide_eq_false (fun e => hxy ?_)
            subst e
            rw [HXY.out.1, HXY.out.2]
          go_wp2_with fail
          go_region
          all_goals
            go_wp2_with fail
            go_ret
            exact ⟨by rw [hRf]; rfl, HBD.out⟩
      · obtain rfl : k = n := by omega
        have hRt : R = true := by
          rw [HN.out.2.2]
          refine decide_eq_true ?_
          have := HS.out
          rwa [List.take_of_length_le (by rw [← HN.out.1]; exact Nat.le_refl _), List.take_of_length_le (by rw [← HN.out.2.1]; exact Nat.le_refl _)] at this
        go_wp2_with fail
        go_ret
        exact ⟨by rw [hRt]; rfl, HB.out⟩
  · have hRf : R = false := by
      rw [HN.out.2.2]
      refine decide_eq_false (fun e => hnm ?_)
      rw [HN.out.1, HN.out.2.1, e]
    go_enter Tryd.func40, Tryd.ntmps40
    go_wp2_with fail
    go_ret
    exact ⟨by rw [hRf]; rfl, Below.refl _ _⟩
set_option maxRecDepth 100000 in
set_option maxHeartbeats 4000000 in
theorem eq_u64 (xs ys : List Int) (a b : Option Addr) (ca cb : Nat) (w : World) (hx : Rd .u64 w a xs.length xs) (hy : Rd .u64 w b ys.length ys) (hl : xs.length ≤ 1000000) (hl2 : ys.length ≤ 1000000) :
    Calls Tryd.prog 38 #[.slice a xs.length ca, .slice b ys.length cb] w fun e w' => e = .returned (.bool (decide (xs = ys))) ∧ Below w.heap.size w w' := by
  obtain ⟨n, hn⟩ : ∃ n, n = xs.length := ⟨_, rfl⟩
  obtain ⟨m, hm⟩ : ∃ m, m = ys.length := ⟨_, rfl⟩
  obtain ⟨R, hR⟩ : ∃ R, R = decide (xs = ys) := ⟨_, rfl⟩
  have HN : Hid (n = xs.length ∧ m = ys.length ∧ R = decide (xs = ys)) := ⟨hn, hm, hR⟩
  have HX : Hid (Rd .u64 w a n xs) := by rw [hn]; exact hx
  have HY : Hid (Rd .u64 w b m ys) := by rw [hm]; exact hy
  have hni : (n : Int) ≤ 1000000 := by omega
  have hmi : (m : Int) ≤ 1000000 := by omega
  rw [← hn, ← hm, ← hR]
  clear hx hy hl hl2 hn hm hR
  by_cases hnm : (n : Int) = (m : Int)
  · obtain rfl : n = m := by omega
    clear hnm
    go_enter Tryd.func38, Tryd.ntmps38
    go_wp2_with fail
    go_loopw [13] (fun x13 wr => ∃ k : Nat, k ≤ n ∧ x13 = .int .i64 (k : Int) ∧ xs.take k = ys.take k ∧ Below w.heap.size w wr) (fun x13 _ => n - (intOf x13).toNat)
    case atStart => exact ⟨0, by omega, rfl, rfl, Below.refl _ _⟩
    case round =>
      obtain ⟨k, hk, hx13, hs, hb⟩ := hrel
      subst hx13
      have HS : Hid (xs.take k = ys.take k) := hs
      have HB : Hid (Below w.heap.size w wr) := hb
      clear hs hb
      by_cases hlt : k < n
      · have hkx : k < xs.length := by rw [← HN.out.1]; exact hlt
        have hky : k < ys.length := by rw [← HN.out.2.1]; exact hlt
        obtain ⟨b1, o1, rfl, hc1⟩ := HX.out.2 (by omega)
        obtain ⟨b2, o2, rfl, hc2⟩ := HY.out.2 (by omega)
        have a1 := upC HB.out (hc1 k hlt)
        have a2 := upC HB.out (hc2 k hlt)
        obtain ⟨X, hX⟩ : ∃ X, X = xs[k] := ⟨_, rfl⟩
        obtain ⟨Y, hY⟩ : ∃ Y, Y = ys[k] := ⟨_, rfl⟩
        rw [show xs.getD k 0 = X by rw [hX]; simp [List.getD_eq_getElem?_getD, hkx]] at a1
        rw [show ys.getD k 0 = Y by rw [hY]; simp [List.getD_eq_getElem?_getD, hky]] at a2
        have HXY : Hid (X = xs[k] ∧ Y = ys[k]) := ⟨hX, hY⟩
        clear hX hY hc1 hc2
        have HBD : Hid (Below w.heap.size w wr.drew) := HB.out.drew
        by_cases hxy : X = Y
        · have HS2 : Hid (xs.take (k + 1) = ys.take (k + 1)) := by
            show _ = _
            rw [take_snoc xs k hkx, take_snoc ys k hky, HS.out, ← HXY.out.1, ← HXY.out.2, hxy]
          subst hxy
          go_wp2_with fail
          go_region
          all_goals
            go_wp2_with fail
            go_roundw
            case rel => exact ⟨k + 1, by omega, by go_num, HS2.out, HBD.out⟩
            case measure => simp [intOf]; omega
        · have hRf : R = false := by
            rw [HN.out.2.2]
            refine decide_eq_false (fun e => hxy ?_)
            subst e
            rw [HXY.out.1, HXY.out.2]
          go_wp2_with fail
          go_region
          all_goals
            go_wp2_with fail
            go_ret
            exact ⟨by rw [hRf]; rfl, HBD.out⟩
      · obtain rfl : k = n := by omega
        have hRt : R = true := by
          rw [HN.out.2.2]
          refine decide_eq_true ?_
          have := HS.out
          rwa [List.take_of_length_le (by rw [← HN.out.1]; exact Nat.le_refl _), List.take_of_length_le (by rw [← HN.out.2.1]; exact Nat.le_refl _)] at this
        go_wp2_with fail
        go_ret
        exact ⟨by rw [hRt]; rfl, HB.out⟩
  · have hRf : R = false := by
      rw [HN.out.2.2]
      refine decide_eq_false (fun e => hnm ?_)
      rw [HN.out.1, HN.out.2.1, e]
    go_enter Tryd.func38, Tryd.ntmps38
    go_wp2_with fail
    go_ret
    exact ⟨by rw [hRf]; rfl, Below.refl _ _⟩
end Go.Proofs.YtpmmmgjiekikeaaDoor

/- The walks of slices.EqualFunc and of Equal. -/
namespace Go.Proofs.YtpmmmgjiekikeaaDoor
open Go.RowKit Go.Shelf Go.Maps
set_option linter.unusedVariables false
set_option linter.unusedSimpArgs false

theorem NRows.later {w w' : World} {a : Option Addr} {nx : List (List Nat)} (h : NRows w a nx) (hb : Below w.heap.size w w') : NRows w' a nx := fun hp => by
  obtain ⟨b, off, e, hk⟩ := h hp
  refine ⟨b, off, e, fun i hi => ?_⟩
  obtain ⟨ra, rc, k1, k2⟩ := hk i hi
  exact ⟨ra, rc, upC hb k1, k2.later hb⟩
theorem intsN_inj {l m : List Nat} (h : intsN l = intsN m) : l = m := by
  unfold intsN at h
  exact (List.map_inj_right (fun a b hab => Int.ofNat.inj hab)).1 h
set_option maxRecDepth 100000 in
set_option maxHeartbeats 4000000 in
theorem eqf_any (xs ys : List (List Nat)) (a b : Option Addr) (ca cb : Nat) (w : World) (hx : NRows w a xs) (hy : NRows w b ys) (hl : xs.length ≤ 1000000) (hl2 : ys.length ≤ 1000000) (hr1 : ∀ r, r ∈ xs → r.length ≤ 1000000) (hr2 : ∀ r, r ∈ ys → r.length ≤ 1000000) :
    Calls Tryd.prog 39 #[.slice a xs.length ca, .slice b ys.length cb, .func (.func 40) #[] #[]] w fun e w' => e = .returned (.bool (decide (xs = ys))) ∧ Below w.heap.size w w' := by
  obtain ⟨n, hn⟩ : ∃ n, n = xs.length := ⟨_, rfl⟩
  obtain ⟨m, hm⟩ : ∃ m, m = ys.length := ⟨_, rfl⟩
  obtain ⟨R, hR⟩ : ∃ R, R = decide (xs = ys) := ⟨_, rfl⟩
  have HN : Hid (n = xs.length ∧ m = ys.length ∧ R = decide (xs = ys)) := ⟨hn, hm, hR⟩
  have HX : Hid (NRows w a xs ∧ ∀ r, r ∈ xs → r.length ≤ 1000000) := ⟨hx, hr1⟩
  have HY : Hid (NRows w b ys ∧ ∀ r, r ∈ ys → r.length ≤ 1000000) := ⟨hy, hr2⟩
  have hni : (n : Int) ≤ 1000000 := by omega
  have hmi : (m : Int) ≤ 1000000 := by omega
  rw [← hn, ← hm, ← hR]
  clear hx hy hl hl2 hn hm hR hr1 hr2
  by_cases hnm : (n : Int) = (m : Int)
  · obtain rfl : n = m := by omega
    clear hnm
    go_enter Tryd.func39, Tryd.ntmps39
    go_wp2_with fail
    go_loopw [17] (fun x17 wr => ∃ k : Nat, k ≤ n ∧ x17 = .int .i64 (k : Int) ∧ xs.take k = ys.take k ∧ Below w.heap.size w wr) (fun x17 _ => n - (intOf x17).toNat)
    case atStart => exact ⟨0, by omega, rfl, rfl, Below.refl _ _⟩
    case round =>
      obtain ⟨k, hk, hx17, hs, hb⟩ := hrel
      subst hx17
      have HS : Hid (xs.take k = ys.take k) := hs
      have HB : Hid (Below w.heap.size w wr) := hb
      clear hs hb
      by_cases hlt : k < n
      · have hkx : k < xs.length := by rw [← HN.out.1]; exact hlt
        have hky : k < ys.length := by rw [← HN.out.2.1]; exact hlt
        obtain ⟨b1, o1, rfl, hc1⟩ := HX.out.1 (by omega)
        obtain ⟨b2, o2, rfl, hc2⟩ := HY.out.1 (by omega)
        obtain ⟨ra1, rc1, hk1, hr1⟩ := hc1 k hkx
        obtain ⟨ra2, rc2, hk2, hr2⟩ := hc2 k hky
        have a1 := upC HB.out hk1
        have a2 := upC HB.out hk2
        obtain ⟨p1, hp1⟩ : ∃ p1, p1 = xs[k].length := ⟨_, rfl⟩
        obtain ⟨p2, hp2⟩ : ∃ p2, p2 = ys[k].length := ⟨_, rfl⟩
        have HC : Hid (Calls Tryd.prog 40 #[.slice ra1 p1 rc1, .slice ra2 p2 rc2] wr fun e w' => e = .returned (.bool (decide (xs[k] = ys[k]))) ∧ Below wr.heap.size wr w') := by
          have h1 := eq_i64 (intsN xs[k]) (intsN ys[k]) ra1 ra2 rc1 rc2 wr (by rw [show (intsN xs[k]).length = xs[k].length by simp [intsN]]; exact hr1.later HB.out) (by rw [show (intsN ys[k]).length = ys[k].length by simp [intsN]]; exact hr2.later HB.out) (by simp [intsN]; exact HX.out.2 _ (List.getElem_mem hkx)) (by simp [intsN]; exact HY.out.2 _ (List.getElem_mem hky))
          rw [show (intsN xs[k]).length = xs[k].length by simp [intsN], show (intsN ys[k]).length = ys[k].length by simp [intsN], ← hp1, ← hp2] at h1
          have h2 : decide (intsN xs[k] = intsN ys[k]) = decide (xs[k] = ys[k]) := by
            by_cases he : xs[k] = ys[k]
            · rw [he]; simp
            · rw [decide_eq_false he, decide_eq_false (fun e => he (intsN_inj e))]
          rw [h2] at h1
          exact h1
        rw [← hp1] at a1
        rw [← hp2] at a2
        clear hc1 hc2 hk1 hk2 hr1 hr2 hp1 hp2
        by_cases hxy : xs[k] = ys[k]
        · have HS2 : Hid (xs.take (k + 1) = ys.take (k + 1)) := by
            show _ = _
            rw [take_snoc xs k hkx, take_snoc ys k hky, HS.out, hxy]
          rw [decide_eq_true hxy] at HC
          clear hxy
          go_wp2_with fail
          refine HC.out.mono ?_
          rintro e w1 ⟨rfl, hb1⟩
          have HB1 : Hid (Below w.heap.size w w1) := HB.out.trans (hb1.mono HB.out.size)
          clear hb1
          go_wp2_with fail
          go_roundw
          case rel => exact ⟨k + 1, by omega, by go_num, HS2.out, HB1.out⟩
          case measure => simp [intOf]; omega
        · have hRf : R = false := by
            rw [HN.out.2.2]
            refine decide_eq_false (fun e => hxy ?_)
            subst e
            rfl
          rw [decide_eq_false hxy] at HC
          clear hxy
          go_wp2_with fail
          refine HC.out.mono ?_
          rintro e w1 ⟨rfl, hb1⟩
          have HB1 : Hid (Below w.heap.size w w1) := HB.out.trans (hb1.mono HB.out.size)
          clear hb1
          go_wp2_with fail
          go_ret
          exact ⟨by rw [hRf]; rfl, HB1.out⟩
      · obtain rfl : k = n := by omega
        have hRt : R = true := by
          rw [HN.out.2.2]
          refine decide_eq_true ?_
          have := HS.out
          rwa [List.take_of_length_le (by rw [← HN.out.1]; exact Nat.le_refl _), List.take_of_length_le (by rw [← HN.out.2.1]; exact Nat.le_refl _)] at this
        go_wp2_with fail
        go_ret
        exact ⟨by rw [hRt]; rfl, HB.out⟩
  · have hRf : R = false := by
      rw [HN.out.2.2]
      refine decide_eq_false (fun e => hnm ?_)
      rw [HN.out.1, HN.out.2.1, e]
    go_enter Tryd.func39, Tryd.ntmps39
    go_wp2_with fail
    go_ret
    exact ⟨by rw [hRf]; rfl, Below.refl _ _⟩
end Go.Proofs.YtpmmmgjiekikeaaDoor
