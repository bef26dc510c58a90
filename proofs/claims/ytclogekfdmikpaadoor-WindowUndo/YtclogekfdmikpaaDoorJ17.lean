/- In one text: DfaFc, DfaNa, DfaNb, DfaNc, DfaPo, DfaPn. -/
import Derived.Test.YtclogekfdmikpaaDoorJ16
import Derived.Maps.Own
import Derived.Maps.OwnOps
import Derived.Maps.OwnSet
import Derived.Laws.StructEq
import Derived.ChangeKeysEq
import Derived.Deep.CutBlock
/- The texts of spots, and of lists of numbers. -/
namespace Go.Proofs.YtclogekfdmikpaaDoor
open Go.RowKit Go.Shelf
set_option linter.unusedVariables false
set_option linter.unusedSimpArgs false

def wds7 (S : Nat) : List Nat := (List.range 7).map (nw S)
theorem wds7_take (S k : Nat) (h : k < 7) : (wds7 S).take (k + 1) = (wds7 S).take k ++ [nw S k] := by
 rw [take_snoc _ k (by simpa [wds7] using h)]
 simp [wds7]
theorem wds7_lt (S : Nat) : ∀ n ∈ wds7 S, n < 2 ^ 64 := by
 intro n hn
 simp only [wds7, List.mem_map] at hn
 obtain ⟨i, _, rfl⟩ := hn
 exact nw_lt S i
set_option maxRecDepth 100000 in
set_option maxHeartbeats 4000000 in
theorem text_any (S : Nat) (b : Bool) (w : World) : Calls Tryd.prog 65 #[spV (S, b)] w fun e w' => e = .returned (.string (tS (sx b (wds7 S)))) ∧ Below w.heap.size w w' := by
 obtain ⟨wA, hwA⟩ : ∃ wA, wA = w.alloc (.cells #[.int .u64 (nw S 0 : Int), .int .u64 (nw S 1 : Int), .int .u64 (nw S 2 : Int), .int .u64 (nw S 3 : Int), .int .u64 (nw S 4 : Int), .int .u64 (nw S 5 : Int), .int .u64 (nw S 6 : Int), .bool b] 122) := ⟨_, rfl⟩
 obtain ⟨H, hH⟩ : ∃ H, H = w.heap.size := ⟨_, rfl⟩
 obtain ⟨B, hB⟩ : ∃ B, B = wA.heap.size := ⟨_, rfl⟩
 have HBA : Hid (Below w.heap.size w wA) := by rw [hwA]; exact (Below.refl _ w).alloc (Nat.le_refl _) _
 have HA : Hid (wA.heap[H]? = some (.cells #[.int .u64 (nw S 0 : Int), .int .u64 (nw S 1 : Int), .int .u64 (nw S 2 : Int), .int .u64 (nw S 3 : Int), .int .u64 (nw S 4 : Int), .int .u64 (nw S 5 : Int), .int .u64 (nw S 6 : Int), .bool b] 122)) := by show _ = _; rw [hwA, hH]; exact heap_alloc_new w _
 have HBB0 : Hid (w.heap.size ≤ B) := by rw [hB]; exact HBA.out.size
 have HHB : Hid (H < B) := by show H < B; rw [hB, hwA, hH]; simp
 have HC : Hid (Calls Tryd.prog 79 #[.slice none 0 0, .bool b] wA (ApB B 0 none 0 [] (bx b) wA)) := by rw [hB]; exact ab_any b wA
 obtain ⟨i0, ji, jz0, jz1, jz2⟩ := info_parts info_u8
 have HJ : Hid (Tryd.prog.info? 5 = some i0 ∧ i0.zero = some (.int .u8 0) ∧ i0.size = 1 ∧ i0.bytes = 1) := ⟨ji, jz0, jz1, jz2⟩
 have e7 : wA.cell? ⟨H, 7, none⟩ = some (.bool b) := cell_of_row wA H 7 _ _ _ HA.out
 obtain ⟨V, hV⟩ : ∃ V, V = Value.agg (nsA S) := ⟨_, rfl⟩
 have HIX : Hid (∀ (k : Nat) (Wx : World), k < 7 → (Instr.index 120 V (.int .i64 (k : Int))).run Tryd.prog Wx = .ok (.int .u64 (nw S k : Int)) Wx) := by
  intro k Wx hk
  rw [hV]
  match k, hk with
  | 0, _ => rfl
  | 1, _ => rfl
  | 2, _ => rfl
  | 3, _ => rfl
  | 4, _ => rfl
  | 5, _ => rfl
  | 6, _ => rfl
 have HBA2 : Hid (B = wA.heap.size) := hB
 clear ji jz0 jz1 jz2 hB
 unfold spV nwV
 go_enter Tryd.func65, Tryd.ntmps65
 go_upto_region 1 with fail
 rw [← hH, ← hwA]
 clear hH hwA
 go_wp2_with fail
 refine HC.out.mono ?_
 rintro e w1 ⟨g, cap, rfl, ho1, hg1⟩
 rw [Nat.zero_add] at ho1 ⊢
 obtain ⟨n, hn⟩ : ∃ n, n = (bx b).length := ⟨_, rfl⟩
 have HN : Hid (n = (sx b ((wds7 S).take 0)).length) := by show _ = _; rw [hn]; simp [sx]
 have HO1 : Hid (w1.ownsRow B 5 1 (.slice (some ⟨g, 0, none⟩) n cap) n (bv (sx b ((wds7 S).take 0)))) := by
  show World.ownsRow _ _ _ _ _ _ _
  rw [hn]
  simpa [sx] using ho1
 have hb1 : Below wA.heap.size wA w1 := (Below.refl _ wA).grown hg1 (Nat.le_refl _) (fun k e => by cases e)
 have HB1 : Hid (Below w.heap.size w w1) := HBA.out.trans (hb1.mono HBA.out.size)
 have HBB1 : Hid (B ≤ w1.heap.size) := by rw [HBA2.out]; exact hb1.size
 have HH1 := (hb1.block H (Array.getElem?_eq_some_iff.1 HA.out).1).trans HA.out
 rw [← hn]
 clear ho1 hg1 hb1 hn HC e7
 have g0 : w1.cell? ⟨H, 0, none⟩ = some (.int .u64 (nw S 0 : Int)) := cell_of_row w1 H 0 _ _ _ HH1
 have g1 : w1.cell? ⟨H, 1, none⟩ = some (.int .u64 (nw S 1 : Int)) := cell_of_row w1 H 1 _ _ _ HH1
 have g2 : w1.cell? ⟨H, 2, none⟩ = some (.int .u64 (nw S 2 : Int)) := cell_of_row w1 H 2 _ _ _ HH1
 have g3 : w1.cell? ⟨H, 3, none⟩ = some (.int .u64 (nw S 3 : Int)) := cell_of_row w1 H 3 _ _ _ HH1
 have g4 : w1.cell? ⟨H, 4, none⟩ = some (.int .u64 (nw S 4 : Int)) := cell_of_row w1 H 4 _ _ _ HH1
 have g5 : w1.cell? ⟨H, 5, none⟩ = some (.int .u64 (nw S 5 : Int)) := cell_of_row w1 H 5 _ _ _ HH1
 have g6 : w1.cell? ⟨H, 6, none⟩ = some (.int .u64 (nw S 6 : Int)) := cell_of_row w1 H 6 _ _ _ HH1
 clear HH1
 go_wp2
 rw [show Value.agg #[.int .u64 (nw S 0 : Int), .int .u64 (nw S 1 : Int), .int .u64 (nw S 2 : Int), .int .u64 (nw S 3 : Int), .int .u64 (nw S 4 : Int), .int .u64 (nw S 5 : Int), .int .u64 (nw S 6 : Int)] = V from hV.symm]
 clear hV g0 g1 g2 g3 g4 g5 g6
 go_loopw [3, 5, 11] (fun x3 x5 x11 wr => ∃ (k n g cap : Nat), k ≤ 7 ∧ x11 = .int .i64 k ∧ x3 = .slice (some ⟨g, 0, none⟩) n cap ∧ n = (sx b ((wds7 S).take k)).length ∧ wr.ownsRow B 5 1 (.slice (some ⟨g, 0, none⟩) n cap) n (bv (sx b ((wds7 S).take k))) ∧ Below w.heap.size w wr ∧ B ≤ wr.heap.size) (fun _ _ x11 _ => 7 - (intOf x11).toNat)
 case atStart => exact ⟨0, n, g, cap, by omega, rfl, rfl, HN.out, HO1.out, HB1.out, HBB1.out⟩
 case round =>
  obtain ⟨k, n, g, cap, hk, hx11, hx3, hn, ho, hbw, hbb⟩ := hrel
  subst hx11 hx3
  have HN : Hid (n = (sx b ((wds7 S).take k)).length) := hn
  have HO : Hid (wr.ownsRow B 5 1 (.slice (some ⟨g, 0, none⟩) n cap) n (bv (sx b ((wds7 S).take k)))) := ho
  have HBW : Hid (Below w.heap.size w wr) := hbw
  have HBB : Hid (B ≤ wr.heap.size) := hbb
  have hnb : n ≤ 5 + 66 * 7 := by
   have h1 := sx_len b ((wds7 S).take k)
   have h2 : ((wds7 S).take k).length ≤ 7 := by rw [List.length_take]; omega
   rw [hn]
   exact Nat.le_trans h1 (Nat.add_le_add_left (Nat.mul_le_mul_left _ h2) _)
  clear hn ho hbw hbb
  by_cases hlt : k < 7
  ·have hki : (k : Int) < 7 := by omega
   have hrun := fun Wx => HIX.out k Wx hlt
   obtain ⟨X, hX⟩ : ∃ X, X = nw S k := ⟨_, rfl⟩
   have HX : Hid (X = nw S k ∧ X < 2 ^ 64) := ⟨hX, by rw [hX]; exact nw_lt S k⟩
   rw [← hX] at hrun
   clear hX
   go_upto_region 6 with (at_builtin; refine wpList_append_lies _ rfl _ _ 146 rfl B 5 i0 _ 1 1 Tryd.underlying146 HJ.out.1 HJ.out.2.1 HJ.out.2.2.1 HJ.out.2.2.2 rfl (by decide) (.slice (some ⟨g, 0, none⟩) n cap) n (bv (sx b ((wds7 S).take k))) rfl (own_later5 HO.out ((Below.refl _ wr).alloc (Nat.le_refl _) _)) ⟨wr.heap.size, 0, none⟩ 1 1 [.int .u8 32] rfl rfl (World.news_of_block (cs := #[.int .u8 32]) (t := 5) (fr := (0, 0)) (heap_alloc_new wr _)) (by simp [Value.oneCell']) (by omega) (by unfold maxLen; omega) (by omega) (by have := HBB.out; simp; omega) _ rfl (fun g2 cap2 w2 q1 q2 q3 q4 => ?_); have HO2 : Hid (w2.ownsRow B 5 1 (.slice (some ⟨g2, 0, none⟩) (n + 1) cap2) (n + 1) (bv ((sx b ((wds7 S).take k)) ++ [32]))) := (by rw [bv_app]; exact q1); have HB2 : Hid (Below w.heap.size w w2) := (HBW.out.alloc HBW.out.size _).grown q2 (Nat.le_trans HBW.out.size (by simp)) (fun k e => Nat.le_trans HBB0.out (own_lt HO.out e).1); have HBB2 : Hid (B ≤ w2.heap.size) := (by have h1 := HBB.out; have h2 := q2.size; simp at h2; show B ≤ _; omega); clear q1 q2 q3 q4)
   have HCU : Hid (Calls Tryd.prog 80 #[.slice (some ⟨g2, 0, none⟩) (n + 1) cap2, .int .u64 (X : Int), .int .i64 36] w2 (ApB B (n + 1) (some ⟨g2, 0, none⟩) cap2 (sx b ((wds7 S).take k) ++ [32]) (dg X) w2)) := au_any B X (n + 1) cap2 (some ⟨g2, 0, none⟩) _ w2 HX.out.2 HO2.out HBB2.out (by omega)
   go_wp2_with fail
   refine HCU.out.mono ?_
   rintro e w4 ⟨g4, cap4, rfl, ho4, hg4⟩
   have HF : Hid (n + 1 + (dg X).length = (sx b ((wds7 S).take (k + 1))).length ∧ w4.ownsRow B 5 1 (.slice (some ⟨g4, 0, none⟩) (n + 1 + (dg X).length) cap4) (n + 1 + (dg X).length) (bv (sx b ((wds7 S).take (k + 1)))) ∧ Below w.heap.size w w4 ∧ B ≤ w4.heap.size) := by
    have hs : sx b ((wds7 S).take (k + 1)) = (sx b ((wds7 S).take k) ++ [32]) ++ dg X := by rw [wds7_take S k hlt, sx_snoc, HX.out.1]
    rw [hs]
    refine ⟨?_, ho4, HB2.out.grown hg4 HB2.out.size (fun k e => Nat.le_trans HBB0.out (own_lt HO2.out e).1), Nat.le_trans HBB2.out hg4.size⟩
    rw [HN.out]
    simp only [List.length_append, List.length_cons, List.length_nil]; try omega
   clear ho4 hg4 HCU
   go_wp2
   go_roundw
   case rel => exact ⟨k + 1, _, g4, cap4, by omega, by go_num, rfl, HF.out⟩
   case measure => simp [intOf]; omega
  ·obtain rfl : k = 7 := by omega
   have hall : (wds7 S).take 7 = wds7 S := List.take_of_length_le (by simp [wds7])
   rw [hall] at HO
   have hcv := conv_own HO.out
   obtain ⟨TT, hTT⟩ : ∃ TT, TT = tS (sx b (wds7 S)) := ⟨_, rfl⟩
   rw [← hTT] at hcv
   have HTT : Hid (TT = tS (sx b (wds7 S))) := hTT
   clear hTT
   go_wp2
   go_ret
   exact ⟨by rw [← HTT.out]; rfl, HBW.out⟩
set_option maxRecDepth 100000 in
set_option maxHeartbeats 4000000 in
theorem textOf_any (l : List Nat) (a : Option Addr) (c : Nat) (w : World) (hrd : Rd .i64 w a l.length (intsN l)) (hl : l.length ≤ 1000) (hlt : ∀ n ∈ l, n < 2 ^ 63) : Calls Tryd.prog 69 #[.slice a l.length c] w fun e w' => e = .returned (.string (tS (tx l))) ∧ Below w.heap.size w w' := by
 obtain ⟨m, hm⟩ : ∃ m, m = l.length := ⟨_, rfl⟩
 obtain ⟨B, hB⟩ : ∃ B, B = w.heap.size := ⟨_, rfl⟩
 have HM : Hid (m = l.length) := hm
 have HRD : Hid (Rd .i64 w a m (intsN l)) := by rw [hm]; exact hrd
 have HLT : Hid (∀ n ∈ l, n < 2 ^ 63) := hlt
 have hmi : (m : Int) ≤ 1000 := by omega
 have HBB0 : Hid (w.heap.size ≤ B) := by rw [hB]; exact Nat.le_refl _
 have HBB1 : Hid (B ≤ w.heap.size) := by rw [hB]; exact Nat.le_refl _
 obtain ⟨i0, ji, jz0, jz1, jz2⟩ := info_parts info_u8
 have HJ : Hid (Tryd.prog.info? 5 = some i0 ∧ i0.zero = some (.int .u8 0) ∧ i0.size = 1 ∧ i0.bytes = 1) := ⟨ji, jz0, jz1, jz2⟩
 rw [← hm]
 clear ji jz0 jz1 jz2 hrd hl hlt hm hB
 go_enter Tryd.func69, Tryd.ntmps69
 go_wp2
 go_loopw [3, 5, 8] (fun x3 x5 x8 wr => ∃ (k n : Nat) (va : Option Addr) (cap : Nat), k ≤ m ∧ x8 = .int .i64 k ∧ x3 = .slice va n cap ∧ n = (tx (l.take k)).length ∧ wr.ownsRow B 5 1 (.slice va n cap) n (bv (tx (l.take k))) ∧ Below w.heap.size w wr ∧ B ≤ wr.heap.size) (fun _ _ x8 _ => m - (intOf x8).toNat)
 case atStart => exact ⟨0, 0, none, 0, by omega, rfl, rfl, rfl, ⟨rfl, .inl ⟨rfl, rfl⟩⟩, Below.refl _ w, HBB1.out⟩
 case round =>
  obtain ⟨k, n, va, cap, hk, hx8, hx3, hn, ho, hbw, hbb⟩ := hrel
  subst hx8 hx3
  have HN : Hid (n = (tx (l.take k)).length) := hn
  have HO0 : Hid (wr.ownsRow B 5 1 (.slice va n cap) n (bv (tx (l.take k)))) := ho
  have HBW0 : Hid (Below w.heap.size w wr) := hbw
  have HBB0' : Hid (B ≤ wr.heap.size) := hbb
  have hnb : n ≤ 66 * 1000 := by
   have h1 := tx_len (l.take k)
   have h2 : (l.take k).length ≤ 1000 := by rw [List.length_take]; have := HM.out; omega
   rw [hn]
   exact Nat.le_trans h1 (Nat.mul_le_mul_left _ h2)
  clear hn ho hbw hbb
  by_cases hlt : k < m
  ·have hkl : k < l.length := by rw [← HM.out]; exact hlt
   obtain ⟨b, off, rfl, hcl⟩ := HRD.out.2 (by omega)
   have hcc := upC HBW0.out (hcl k hlt)
   obtain ⟨X, hX⟩ : ∃ X, X = l[k] := ⟨_, rfl⟩
   rw [show (intsN l).getD k 0 = (X : Int) by rw [hX]; simp [intsN, List.getD_eq_getElem?_getD, hkl]] at hcc
   have HX : Hid (X = l[k] ∧ X < 2 ^ 63) := ⟨hX, by rw [hX]; exact HLT.out _ (List.getElem_mem hkl)⟩
   have hXi : (X : Int) ≤ 9223372036854775807 := by have := HX.out.2; omega
   have HCU : Hid (Calls Tryd.prog 84 #[.slice va n cap, .int .i64 (X : Int), .int .i64 36] wr (ApB B n va cap (tx (l.take k)) (dg X) wr)) := ai_any B X n cap va _ wr HX.out.2 HO0.out HBB0'.out (by omega)
   clear hX hcl hXi
   go_wp2_with fail
   refine HCU.out.mono ?_
   rintro e w1 ⟨g, cap1, rfl, ho1, hg1⟩
   obtain ⟨n1, hn1⟩ : ∃ n1, n1 = n + (dg X).length := ⟨_, rfl⟩
   have hn1b : n1 ≤ 67 * 1000 := by have := dg_len X; omega
   have HN1 : Hid (n1 = n + (dg X).length) := hn1
   rw [← hn1] at ho1 ⊢
   have HO : Hid (w1.ownsRow B 5 1 (.slice (some ⟨g, 0, none⟩) n1 cap1) n1 (bv (tx (l.take k) ++ dg X))) := ho1
   have HBW : Hid (Below w.heap.size w w1) := HBW0.out.grown hg1 HBW0.out.size (fun k e => Nat.le_trans HBB0.out (own_lt HO0.out e).1)
   have HBB : Hid (B ≤ w1.heap.size) := Nat.le_trans HBB0'.out hg1.size
   clear ho1 hg1 hn1 HCU hcc
   go_wp2_with (at_builtin; refine wpList_append_lies _ rfl _ _ 146 rfl B 5 i0 _ 1 1 Tryd.underlying146 HJ.out.1 HJ.out.2.1 HJ.out.2.2.1 HJ.out.2.2.2 rfl (by decide) (.slice (some ⟨g, 0, none⟩) n1 cap1) n1 (bv (tx (l.take k) ++ dg X)) rfl (own_later5 HO.out ((Below.refl _ w1).alloc (Nat.le_refl _) _)) ⟨w1.heap.size, 0, none⟩ 1 1 [.int .u8 32] rfl rfl (World.news_of_block (cs := #[.int .u8 32]) (t := 5) (fr := (0, 0)) (heap_alloc_new w1 _)) (by simp [Value.oneCell']) (by omega) (by unfold maxLen; omega) (by omega) (by have := HBB.out; simp; omega) _ rfl (fun g2 cap2 w2 q1 q2 q3 q4 => ?_); have HO2 : Hid (w2.ownsRow B 5 1 (.slice (some ⟨g2, 0, none⟩) (n1 + 1) cap2) (n1 + 1) (bv ((tx (l.take k) ++ dg X) ++ [32]))) := (by rw [bv_app]; exact q1); have HB2 : Hid (Below w.heap.size w w2) := (HBW.out.alloc HBW.out.size _).grown q2 (Nat.le_trans HBW.out.size (by simp)) (fun k e => Nat.le_trans HBB0.out (own_lt HO.out e).1); have HBB2 : Hid (B ≤ w2.heap.size) := (by have h1 := HBB.out; have h2 := q2.size; simp at h2; show B ≤ _; omega); clear q1 q2 q3 q4)
   have HF : Hid (n1 + 1 = (tx (l.take (k + 1))).length ∧ w2.ownsRow B 5 1 (.slice (some ⟨g2, 0, none⟩) (n1 + 1) cap2) (n1 + 1) (bv (tx (l.take (k + 1)))) ∧ Below w.heap.size w w2 ∧ B ≤ w2.heap.size) := by
    have hs : tx (l.take (k + 1)) = (tx (l.take k) ++ dg X) ++ [32] := by rw [take_snoc l k hkl, tx_snoc, HX.out.1]
    rw [hs]
    refine ⟨?_, HO2.out, HB2.out, HBB2.out⟩
    rw [HN1.out, HN.out]
    simp only [List.length_append, List.length_cons, List.length_nil]; try omega
   go_roundw
   case rel => exact ⟨k + 1, _, _, cap2, by omega, by go_num, rfl, HF.out⟩
   case measure => simp [intOf]; omega
  ·have hall : l.take k = l := List.take_of_length_le (by rw [← HM.out]; omega)
   rw [hall] at HO0
   have hcv := conv_own HO0.out
   obtain ⟨TT, hTT⟩ : ∃ TT, TT = tS (tx l) := ⟨_, rfl⟩
   rw [← hTT] at hcv
   have HTT : Hid (TT = tS (tx l)) := hTT
   clear hTT
   go_wp2
   go_ret
   exact ⟨by rw [← HTT.out]; rfl, HBW0.out⟩
end Go.Proofs.YtclogekfdmikpaaDoor

/- Keys get numbers as they are met: the walks of number. -/
namespace Go.Proofs.YtclogekfdmikpaaDoor
open Go.RowKit Go.Shelf Go.Maps
set_option linter.unusedVariables false
set_option linter.unusedSimpArgs false

def NumP (K : TypeId) (B : Nat) (ks : List Lit) (kl : Lit) (w : World) (e : Ending) (w' : World) : Prop :=
 ∃ (i : Nat) (ks' : List Lit), e = .returned (.int .i64 (i : Int)) ∧ w'.ownsMap Tryd.prog K (plainElem (H := Unit) Tryd.prog 3) B ks'.length (kD ks') ∧ w.grownBy w' (some B) ∧ Keysy ks' ∧ ks'[i]? = some kl ∧ ((ks' = ks ∧ i < ks.length) ∨ (kl ∉ ks ∧ ks' = ks ++ [kl] ∧ i = ks.length))
set_option maxHeartbeats 2000000 in
theorem num_str (B : Nat) (ks : List Lit) (s : ByteArray) (w : World) (hm : w.ownsMap Tryd.prog 9 (plainElem (H := Unit) Tryd.prog 3) B ks.length (kD ks)) (hk : Keysy ks) (hl : ks.length ≤ 1000000) (hs : s.size ≤ maxLen) :
 Calls Tryd.prog 78 #[.map (some B), .string s] w (NumP 9 B ks (.string s.data.toList) w) := by
 have law : Go.Maps.Keyed Tryd.prog 9 := string_keyed Tryd.underlying9
 have hkey : keyOf Tryd.prog 9 (.string s) = some (.string s.data.toList) := WideMaps.keyOf_string_mk Tryd.underlying9 hs
 have hlit : WideAt.IsKeyLit (.string s.data.toList) := by simp [WideAt.IsKeyLit]
 have zeroE : ∀ W : World, (zeroValue 3).run Tryd.prog W = .ok (.int .i64 0) W := fun W => Tryd.zeroValue3 W
 have HOWN : Hid (w.ownsMap Tryd.prog 9 (plainElem (H := Unit) Tryd.prog 3) B ks.length (kD ks)) := hm
 have HLAW : Hid (Go.Maps.Keyed Tryd.prog 9) := law
 have HKEY : Hid (keyOf Tryd.prog 9 (.string s) = some (.string s.data.toList)) := hkey
 have HZ : Hid (∀ W : World, (zeroValue 3).run Tryd.prog W = .ok (.int .i64 0) W) := zeroE
 have HK : Hid (Keysy ks) := hk
 obtain ⟨n, hn⟩ : ∃ n, n = ks.length := ⟨_, rfl⟩
 have HN : Hid (n = ks.length) := hn
 have HSZ : Hid (Maps.size (kD ks) = n) := by rw [hn]; exact kD_size ks hk
 have hni : (n : Int) ≤ 1000000 := by omega
 have HTY : Hid (Tryd.prog.underlying 144 = some (.map 9 3)) := Tryd.underlying144
 have hlen := hm.len Tryd.underlying144
 by_cases hin : (.string s.data.toList) ∈ ks
 ·obtain ⟨i, hi⟩ := List.getElem?_of_mem hin
  have hhas : Maps.has (kD ks) (.string s.data.toList) = true := (kD_has _ ks hk).2 hin
  have hat := kD_at (.lit (.int .i64 0)) ks hk i _ hi
  have hil := (List.getElem?_eq_some_iff.1 hi).1
  have HF : Hid (NumP 9 B ks (.string s.data.toList) w (.returned (.int .i64 (i : Int))) w) := ⟨i, ks, rfl, hm, grown_refl _ _, hk, hi, .inl ⟨rfl, hil⟩⟩
  have HAT : Hid ((kD ks).atKey (.string s.data.toList) (.lit (.int .i64 0)) = .lit (.int .i64 (i : Int))) := hat
  have HHAS : Hid (Maps.has (kD ks) (.string s.data.toList) = true) := hhas
  clear hm hk hl hin hi hil law hkey zeroE hlen hlit hn hat hhas
  go_enter Tryd.func78, Tryd.ntmps78
  go_wp2_with (at_lookup; refine wpList_lookup_own_ok_int _ rfl _ _ 144 rfl 9 3 .i64 HLAW.out HTY.out Tryd.underlying3 (HZ.out _) B ks.length (kD ks) rfl HOWN.out _ _ rfl HKEY.out ?_; intro c hat hwc; obtain rfl : c = (i : Int) := (by have h1 := HAT.out; rw [hat] at h1; cases h1; rfl); rw [HHAS.out]; clear hat hwc)
  go_ret
  exact HF.out
 ·have hhas : Maps.has (kD ks) (.string s.data.toList) = false := kD_no hk hin
  have HHAS : Hid (Maps.has (kD ks) (.string s.data.toList) = false) := hhas
  have HFN : Hid (∀ w1 : World, w1.ownsMap Tryd.prog 9 (plainElem (H := Unit) Tryd.prog 3) B (ks.length + 1) ((kD ks).put (.string s.data.toList) (.lit (.int .i64 (n : Int)))) → w.grownBy w1 (some B) → NumP 9 B ks (.string s.data.toList) w (.returned (.int .i64 (n : Int))) w1) := fun w1 h1 h2 => by
   rw [hn, ← kD_snoc] at h1
   exact ⟨ks.length, ks ++ [.string s.data.toList], by rw [hn], by simpa using h1, h2, hk.snoc hin hlit, by simp, .inr ⟨hin, rfl, rfl⟩⟩
  have hnm : ks.length < maxLen := by unfold maxLen; omega
  have HNM : Hid (ks.length < maxLen) := hnm
  have HPE : Hid (plainElem (H := Unit) Tryd.prog 3 (.int .i64 (n : Int)) = some (.lit (.int .i64 (n : Int)), [])) := plainElem_int Tryd.underlying3 (WalkArith.wf_i64 (by omega))
  rw [HSZ.out] at hlen
  clear hm hk hl hin law hkey zeroE hlit hn hhas hnm
  go_enter Tryd.func78, Tryd.ntmps78
  go_wp2_with (first
   | (at_lookup; refine wpList_lookup_own_ok_int _ rfl _ _ 144 rfl 9 3 .i64 HLAW.out HTY.out Tryd.underlying3 (HZ.out _) B ks.length (kD ks) rfl HOWN.out _ _ rfl HKEY.out ?_; intro c hat hwc; rw [HHAS.out]; clear hat hwc)
   | (at_len; refine wpList_len_own _ rfl _ 144 rfl 9 3 HTY.out _ B ks.length (kD ks) rfl HOWN.out ?_; rw [HSZ.out])
   | (at_mapUpdate; refine wpList_mapUpdate_own _ rfl _ _ _ 144 rfl 9 3 HLAW.out HTY.out _ B ks.length (kD ks) rfl HOWN.out HNM.out _ _ _ rfl rfl HKEY.out _ [] HPE.out ?_; intro w1 hown1 hgrow1; have HF : Hid (NumP 9 B ks (.string s.data.toList) w (.returned (.int .i64 (n : Int))) w1) := HFN.out w1 hown1 hgrow1; clear hown1 hgrow1))
  go_ret
  exact HF.out
set_option maxHeartbeats 2000000 in
theorem num_u64 (B : Nat) (ks : List Lit) (x : Nat) (w : World) (hm : w.ownsMap Tryd.prog 64 (plainElem (H := Unit) Tryd.prog 3) B ks.length (kD ks)) (hk : Keysy ks) (hl : ks.length ≤ 1000000) (hs : x < 2 ^ 64) :
 Calls Tryd.prog 85 #[.map (some B), .int .u64 (x : Int)] w (NumP 64 B ks (.int .u64 (x : Int)) w) := by
 have law : Go.Maps.Keyed Tryd.prog 64 := int_keyed Tryd.underlying64
 have hkey : keyOf Tryd.prog 64 (.int .u64 (x : Int)) = some (.int .u64 (x : Int)) := keyOf_int_mk Tryd.underlying64 (WalkArith.wf_u64 (by omega))
 have hlit : WideAt.IsKeyLit (.int .u64 (x : Int)) := by simp [WideAt.IsKeyLit]
 have zeroE : ∀ W : World, (zeroValue 3).run Tryd.prog W = .ok (.int .i64 0) W := fun W => Tryd.zeroValue3 W
 have HOWN : Hid (w.ownsMap Tryd.prog 64 (plainElem (H := Unit) Tryd.prog 3) B ks.length (kD ks)) := hm
 have HLAW : Hid (Go.Maps.Keyed Tryd.prog 64) := law
 have HKEY : Hid (keyOf Tryd.prog 64 (.int .u64 (x : Int)) = some (.int .u64 (x : Int))) := hkey
 have HZ : Hid (∀ W : World, (zeroValue 3).run Tryd.prog W = .ok (.int .i64 0) W) := zeroE
 have HK : Hid (Keysy ks) := hk
 obtain ⟨n, hn⟩ : ∃ n, n = ks.length := ⟨_, rfl⟩
 have HN : Hid (n = ks.length) := hn
 have HSZ : Hid (Maps.size (kD ks) = n) := by rw [hn]; exact kD_size ks hk
 have hni : (n : Int) ≤ 1000000 := by omega
 have HTY : Hid (Tryd.prog.underlying 153 = some (.map 64 3)) := Tryd.underlying153
 have hlen := hm.len Tryd.underlying153
 by_cases hin : (.int .u64 (x : Int)) ∈ ks
 ·obtain ⟨i, hi⟩ := List.getElem?_of_mem hin
  have hhas : Maps.has (kD ks) (.int .u64 (x : Int)) = true := (kD_has _ ks hk).2 hin
  have hat := kD_at (.lit (.int .i64 0)) ks hk i _ hi
  have hil := (List.getElem?_eq_some_iff.1 hi).1
  have HF : Hid (NumP 64 B ks (.int .u64 (x : Int)) w (.returned (.int .i64 (i : Int))) w) := ⟨i, ks, rfl, hm, grown_refl _ _, hk, hi, .inl ⟨rfl, hil⟩⟩
  have HAT : Hid ((kD ks).atKey (.int .u64 (x : Int)) (.lit (.int .i64 0)) = .lit (.int .i64 (i : Int))) := hat
  have HHAS : Hid (Maps.has (kD ks) (.int .u64 (x : Int)) = true) := hhas
  clear hm hk hl hin hi hil law hkey zeroE hlen hlit hn hat hhas
  go_enter Tryd.func85, Tryd.ntmps85
  go_wp2_with (at_lookup; refine wpList_lookup_own_ok_int _ rfl _ _ 153 rfl 64 3 .i64 HLAW.out HTY.out Tryd.underlying3 (HZ.out _) B ks.length (kD ks) rfl HOWN.out _ _ rfl HKEY.out ?_; intro c hat hwc; obtain rfl : c = (i : Int) := (by have h1 := HAT.out; rw [hat] at h1; cases h1; rfl); rw [HHAS.out]; clear hat hwc)
  go_ret
  exact HF.out
 ·have hhas : Maps.has (kD ks) (.int .u64 (x : Int)) = false := kD_no hk hin
  have HHAS : Hid (Maps.has (kD ks) (.int .u64 (x : Int)) = false) := hhas
  have HFN : Hid (∀ w1 : World, w1.ownsMap Tryd.prog 64 (plainElem (H := Unit) Tryd.prog 3) B (ks.length + 1) ((kD ks).put (.int .u64 (x : Int)) (.lit (.int .i64 (n : Int)))) → w.grownBy w1 (some B) → NumP 64 B ks (.int .u64 (x : Int)) w (.returned (.int .i64 (n : Int))) w1) := fun w1 h1 h2 => by
   rw [hn, ← kD_snoc] at h1
   exact ⟨ks.length, ks ++ [.int .u64 (x : Int)], by rw [hn], by simpa using h1, h2, hk.snoc hin hlit, by simp, .inr ⟨hin, rfl, rfl⟩⟩
  have hnm : ks.length < maxLen := by unfold maxLen; omega
  have HNM : Hid (ks.length < maxLen) := hnm
  have HPE : Hid (plainElem (H := Unit) Tryd.prog 3 (.int .i64 (n : Int)) = some (.lit (.int .i64 (n : Int)), [])) := plainElem_int Tryd.underlying3 (WalkArith.wf_i64 (by omega))
  rw [HSZ.out] at hlen
  clear hm hk hl hin law hkey zeroE hlit hn hhas hnm
  go_enter Tryd.func85, Tryd.ntmps85
  go_wp2_with (first
   | (at_lookup; refine wpList_lookup_own_ok_int _ rfl _ _ 153 rfl 64 3 .i64 HLAW.out HTY.out Tryd.underlying3 (HZ.out _) B ks.length (kD ks) rfl HOWN.out _ _ rfl HKEY.out ?_; intro c hat hwc; rw [HHAS.out]; clear hat hwc)
   | (at_len; refine wpList_len_own _ rfl _ 153 rfl 64 3 HTY.out _ B ks.length (kD ks) rfl HOWN.out ?_; rw [HSZ.out])
   | (at_mapUpdate; refine wpList_mapUpdate_own _ rfl _ _ _ 153 rfl 64 3 HLAW.out HTY.out _ B ks.length (kD ks) rfl HOWN.out HNM.out _ _ _ rfl rfl HKEY.out _ [] HPE.out ?_; intro w1 hown1 hgrow1; have HF : Hid (NumP 64 B ks (.int .u64 (x : Int)) w (.returned (.int .i64 (n : Int))) w1) := HFN.out w1 hown1 hgrow1; clear hown1 hgrow1))
  go_ret
  exact HF.out
end Go.Proofs.YtclogekfdmikpaaDoor

/- Numbers of many keys: rows of numbers in memory; the walks of numbers. -/
namespace Go.Proofs.YtclogekfdmikpaaDoor
open Go.RowKit Go.Shelf Go.Maps
set_option linter.unusedVariables false
set_option linter.unusedSimpArgs false

def iv (l : List Nat) : List Value := l.map (fun (c : Nat) => Value.int .i64 (c : Int))
def IRow (w : World) (b : Nat) (l : List Nat) : Prop := w.heap[b]? = some (.cells (iv l).toArray 3)
theorem IRow.rd {w : World} {b : Nat} {l : List Nat} (h : IRow w b l) : Rd .i64 w (some ⟨b, 0, none⟩) l.length (intsN l) := by
 refine ⟨by simp [intsN], fun _ => ⟨b, 0, rfl, fun i hi => ?_⟩⟩
 rw [Nat.zero_add, cell_of_row w b i _ _ _ h]
 simp [iv, intsN, List.getD_eq_getElem?_getD, hi]
theorem IRow.cell {w : World} {b : Nat} {l : List Nat} (h : IRow w b l) {i : Nat} (hi : i < l.length) : w.cell? ⟨b, i, none⟩ = some (.int .i64 (l[i] : Int)) := by
 rw [cell_of_row w b i _ _ _ h]
 simp [iv, hi]
theorem IRow.frozen {w : World} {b : Nat} {l : List Nat} (h : IRow w b l) (i : Nat) : w.frozen? ⟨b, i, none⟩ = false := Lib.frozen_of_heap h i
theorem IRow.set {w : World} {b : Nat} {l : List Nat} (h : IRow w b l) (i x : Nat) : IRow (w.setCell ⟨b, i, none⟩ (.int .i64 (x : Int))) b (l.set i x) := by
 unfold IRow
 rw [heap_setCell_same w b i _ _ _ h]
 simp [iv, List.map_set]
theorem IRow.later {w w' : World} {b : Nat} {l : List Nat} (h : IRow w b l) (hb : Below w.heap.size w w') : IRow w' b l := (hb.block b (Array.getElem?_eq_some_iff.1 h).1).trans h
theorem IRow.lt {w : World} {b : Nat} {l : List Nat} (h : IRow w b l) : b < w.heap.size := (Array.getElem?_eq_some_iff.1 h).1
theorem IRow.grown {w w' : World} {b g : Nat} {l : List Nat} (h : IRow w b l) (hg : w.grownBy w' (some g)) (hne : b ≠ g) : IRow w' b l := (hg.block b h.lt (fun e => hne (Option.some.inj e))).trans h
theorem made_one (v : Value) (n : Nat) : (madeCells #[v] n).toList = List.replicate n v := by
 apply List.ext_getElem
 ·simp [size_madeCells]
 ·intro i h1 h2
  simp [madeCells, Nat.mod_one]
theorem made_i (n : Nat) : (madeCells (Value.int .i64 0).cells (n * 1)) = (iv (List.replicate n 0)).toArray := by
 apply Array.ext'
 rw [Nat.mul_one]
 refine (made_one (.int .i64 0) n).trans ?_
 simp [iv]
theorem make_i (n : Nat) (hn : n ≤ 1000000) (W : World) : (Instr.makeSlice 26 (.int .i64 (n : Int)) (.int .i64 (n : Int))).run Tryd.prog W = .ok (.slice (some ⟨W.heap.size, 0, none⟩) n n) (W.alloc (.cells (iv (List.replicate n 0)).toArray 3)) := by
 obtain ⟨i0, hi, hz0, hz1, hz2⟩ := info_parts info_i
 have := run_make (P := Tryd.prog) W 26 3 i0 _ Tryd.underlying26 hi hz0 .i64 .i64 (n : Int) (n : Int) (by omega) (by omega) (by rw [hz2]; omega) (by omega)
 rw [show ((n : Int)).toNat = n by omega, hz1, made_i] at this
 exact this
structure NuP {α : Type} (lit : α → Lit) (keys : List α) (k : Nat) (ks : List Lit) (l : List Nat) : Prop where
 keysy : Keysy ks
 len : l.length = k
 at_ : ∀ i (hi : i < keys.length), i < k → ks[l.getD i 0]? = some (lit keys[i])
 met : metRow 0 l = some ks.length
 few : ks.length ≤ k
theorem NuP.done {α : Type} {lit : α → Lit} {keys : List α} {ks : List Lit} {l : List Nat} (hinj : ∀ i j (hi : i < keys.length) (hj : j < keys.length), lit keys[i] = lit keys[j] → keys[i] = keys[j]) (h : NuP lit keys keys.length ks l) : NumOf keys l ks.length := by
 refine ⟨h.len, h.met, fun i j hi hj => ⟨fun e => ?_, fun e => ?_⟩⟩
 ·have h1 := h.at_ i hi hi
  have h2 := h.at_ j hj hj
  rw [e, h2] at h1
  exact (hinj j i hj hi (Option.some.inj h1)).symm
 ·have h1 := h.at_ i hi hi
  have h2 := h.at_ j hj hj
  rw [e, ← h2] at h1
  obtain ⟨a1, a2⟩ := List.getElem?_eq_some_iff.1 h2
  obtain ⟨b1, b2⟩ := List.getElem?_eq_some_iff.1 (h1.trans h2)
  exact (List.getElem_inj h.keysy.1).1 (b2.trans a2.symm)
theorem NuP.step {α : Type} {lit : α → Lit} {keys : List α} {k : Nat} {ks ks' : List Lit} {l : List Nat} {i : Nat} (h : NuP lit keys k ks l) (hk : k < keys.length) (hks : Keysy ks') (hi : ks'[i]? = some (lit keys[k])) (hor : (ks' = ks ∧ i < ks.length) ∨ (lit keys[k] ∉ ks ∧ ks' = ks ++ [lit keys[k]] ∧ i = ks.length)) : NuP lit keys (k + 1) ks' (l ++ [i]) := by
 have hpre : ∀ j x, ks[j]? = some x → ks'[j]? = some x := fun j x hx => by
  rcases hor with ⟨rfl, _⟩ | ⟨_, rfl, _⟩
  ·exact hx
  ·rw [List.getElem?_append_left (List.getElem?_eq_some_iff.1 hx).1]; exact hx
 refine ⟨hks, by simp [h.len], fun j hj hjk => ?_, ?_, ?_⟩
 ·rcases Nat.lt_or_ge j k with h1 | h1
  ·rw [List.getD_eq_getElem?_getD, List.getElem?_append_left (by rw [h.len]; exact h1), ← List.getD_eq_getElem?_getD]
   exact hpre _ _ (h.at_ j hj h1)
  ·obtain rfl : j = k := by omega
   rw [List.getD_eq_getElem?_getD, List.getElem?_append_right (by rw [h.len]; exact Nat.le_refl _), h.len, Nat.sub_self]
   exact hi
 ·rw [metRow_app, h.met]
  simp only [Option.bind_some, metRow]
  rcases hor with ⟨rfl, h1⟩ | ⟨_, rfl, rfl⟩
  ·rw [if_pos h1]
  ·rw [if_neg (by omega), if_pos rfl]; simp
 ·rcases hor with ⟨rfl, _⟩ | ⟨_, rfl, _⟩
  ·have := h.few; omega
  ·have := h.few; simp; omega
set_option maxRecDepth 100000 in
set_option maxHeartbeats 4000000 in
theorem numsU (keys : List Nat) (a : Option Addr) (c : Nat) (w : World) (hrd : Rd .u64 w a keys.length (intsN keys)) (hlt : ∀ x ∈ keys, x < 2 ^ 64) (hl : keys.length ≤ 100000) :
 Calls Tryd.prog 70 #[.slice a keys.length c] w fun e w' => ∃ b l cnt, e = .returned (.tuple #[.slice (some ⟨b, 0, none⟩) keys.length keys.length, .int .i64 ((cnt : Nat) : Int)]) ∧ IRow w' b l ∧ NumOf keys l cnt ∧ Below w.heap.size w w' ∧ w.heap.size ≤ b := by
 obtain ⟨m, hm⟩ : ∃ m, m = keys.length := ⟨_, rfl⟩
 have HM : Hid (m = keys.length) := hm
 have hmi : (m : Int) ≤ 100000 := by omega
 have hmm := @run_makeMap Tryd.prog
 have hmk := make_i m (by omega)
 obtain ⟨wM, hwM⟩ : ∃ wM, wM = w.alloc (.map #[] 0) := ⟨_, rfl⟩
 obtain ⟨wA, hwA⟩ : ∃ wA, wA = wM.alloc (.cells (iv (List.replicate m 0)).toArray 3) := ⟨_, rfl⟩
 obtain ⟨H, hH⟩ : ∃ H, H = w.heap.size := ⟨_, rfl⟩
 have hMs : wM.heap.size = H + 1 := by rw [hwM, hH]; simp
 have HBM : Hid (Below w.heap.size w wM) := by rw [hwM]; exact (Below.refl _ w).alloc (Nat.le_refl _) _
 have HBA : Hid (Below w.heap.size w wA) := by rw [hwA]; exact HBM.out.alloc HBM.out.size _
 have HIR : Hid (IRow wA (H + 1) (List.replicate m 0)) := by show IRow _ _ _; rw [hwA, ← hMs]; exact heap_alloc_new wM _
 have HMP : Hid (wA.ownsMap Tryd.prog 64 (plainElem (H := Unit) Tryd.prog 3) H 0 (kD [])) := by rw [hwA, hwM, hH]; exact (World.ownsMap_made w _ _ _).alloc _
 have HH : Hid (w.heap.size ≤ H) := by rw [hH]; exact Nat.le_refl _
 have HRD : Hid (Rd .u64 w a m (intsN keys)) := by rw [hm]; exact hrd
 have HLT : Hid (∀ x ∈ keys, x < 2 ^ 64) := hlt
 clear hrd hlt
 rw [← hm]
 clear hl hm hMs
 go_enter Tryd.func70, Tryd.ntmps70
 go_upto_region 3 with fail
 rw [← hH, ← hwM, ← hwA]
 clear hH hwM hwA hmm hmk
 go_wp2
 go_loopw [6, 7, 14] (fun x6 x7 x14 wr => ∃ (k : Nat) (ks : List Lit) (l : List Nat), k ≤ m ∧ x14 = .int .i64 k ∧ NuP (fun x : Nat => Go.Lit.int .u64 (x : Int)) keys k ks l ∧ wr.ownsMap Tryd.prog 64 (plainElem (H := Unit) Tryd.prog 3) H ks.length (kD ks) ∧ IRow wr (H + 1) (l ++ List.replicate (m - k) 0) ∧ Below w.heap.size w wr) (fun _ _ x14 _ => m - (intOf x14).toNat)
 case atStart => exact ⟨0, [], [], by omega, rfl, ⟨⟨List.nodup_nil, fun k hk => (by simp at hk)⟩, rfl, fun i _ hi => (by omega), rfl, by simp⟩, HMP.out, by simpa using HIR.out, HBA.out⟩
 case round =>
  obtain ⟨k, ks, l, hk, hx14, hnu, hown, hir, hbw⟩ := hrel
  subst hx14
  have HNU : Hid (NuP (fun x : Nat => Go.Lit.int .u64 (x : Int)) keys k ks l) := hnu
  have HOWN : Hid (wr.ownsMap Tryd.prog 64 (plainElem (H := Unit) Tryd.prog 3) H ks.length (kD ks)) := hown
  have HIW : Hid (IRow wr (H + 1) (l ++ List.replicate (m - k) 0)) := hir
  have HBW : Hid (Below w.heap.size w wr) := hbw
  clear hnu hown hir hbw
  by_cases hlt : k < m
  ·have hkl : k < keys.length := by rw [← HM.out]; exact hlt
   obtain ⟨b, off, rfl, hcl⟩ := HRD.out.2 (by omega)
   have hcc := upC HBW.out (hcl k hlt)
   obtain ⟨X, hX⟩ : ∃ X, X = keys[k] := ⟨_, rfl⟩
   rw [show (intsN keys).getD k 0 = (X : Int) by rw [hX]; simp [intsN, List.getD_eq_getElem?_getD, hkl]] at hcc
   have HXL : Hid (X = keys[k]) := hX
   have HC : Hid (Calls Tryd.prog 85 #[.map (some H), .int .u64 (X : Int)] wr (NumP 64 H ks (.int .u64 (X : Int)) wr)) := num_u64 H ks X wr HOWN.out HNU.out.keysy (by have := HNU.out.few; omega) (by rw [hX]; exact HLT.out _ (List.getElem_mem hkl))
   clear hX hcl
   go_wp2_with fail
   refine HC.out.mono ?_
   rintro e w1 ⟨i, ks', rfl, hown1, hg1, hks1, hi1, hor1⟩
   have hir1 := HIW.out.grown hg1 (by omega)
   have hlw : k < (l ++ List.replicate (m - k) 0).length := by simp [HNU.out.len]; omega
   have c1 := hir1.cell hlw
   obtain ⟨x0, hx0⟩ : ∃ x0, x0 = (l ++ List.replicate (m - k) 0)[k] := ⟨_, rfl⟩
   rw [← hx0] at c1
   have f1 := hir1.frozen k
   obtain ⟨w2, hw2⟩ : ∃ w2, w2 = w1.setCell ⟨H + 1, k, none⟩ (.int .i64 (i : Int)) := ⟨_, rfl⟩
   have HF : Hid (NuP (fun x : Nat => Go.Lit.int .u64 (x : Int)) keys (k + 1) ks' (l ++ [i]) ∧ w2.ownsMap Tryd.prog 64 (plainElem (H := Unit) Tryd.prog 3) H ks'.length (kD ks') ∧ IRow w2 (H + 1) ((l ++ [i]) ++ List.replicate (m - (k + 1)) 0) ∧ Below w.heap.size w w2) := by
    refine ⟨HNU.out.step hkl hks1 (HXL.out ▸ hi1) (HXL.out ▸ hor1), ?_, ?_, ?_⟩
    ·rw [hw2]; exact hown1.setCell (by show H ≠ H + 1; omega) _
    ·rw [hw2]
     have h1 := hir1.set k i
     have h2 : (l ++ List.replicate (m - k) 0).set k i = (l ++ [i]) ++ List.replicate (m - (k + 1)) 0 := by
      rw [List.set_append_right _ _ (by rw [HNU.out.len]; exact Nat.le_refl _), HNU.out.len, Nat.sub_self, show m - k = (m - (k + 1)) + 1 by omega, List.replicate_succ, List.set_cons_zero, List.append_assoc]
      rfl
     rw [h2] at h1
     exact h1
    ·rw [hw2]
     exact (HBW.out.grown hg1 HBW.out.size (fun j e => by cases e; exact HH.out)).setCell (p := ⟨H + 1, k, none⟩) (by show w.heap.size ≤ H + 1; have := HH.out; omega) _
   clear hown1 hg1 hks1 hi1 hor1 hir1 hx0 HC hlw
   go_wp2_with fail
   rw [← hw2]
   clear hw2 c1 f1
   go_roundw
   case rel => exact ⟨k + 1, ks', l ++ [i], by omega, by go_num, HF.out⟩
   case measure => simp [intOf]; omega
  ·obtain rfl : k = m := by omega
   have hlen := HOWN.out.len (e := 3) Tryd.underlying153
   rw [kD_size ks HNU.out.keysy] at hlen
   have HF : Hid (IRow wr (H + 1) l ∧ NumOf keys l ks.length ∧ Below w.heap.size w wr ∧ w.heap.size ≤ H + 1) := by
    have h1 := HNU.out
    rw [HM.out] at h1
    exact ⟨by have := HIW.out; rw [Nat.sub_self] at this; simpa using this, h1.done (fun i j hi hj e => by have := (Go.Lit.int.inj e).2; omega), HBW.out, by have := HH.out; omega⟩
   go_wp2
   go_ret2
   exact ⟨H + 1, l, ks.length, rfl, HF.out⟩
end Go.Proofs.YtclogekfdmikpaaDoor

/- Numbers of many texts. -/
namespace Go.Proofs.YtclogekfdmikpaaDoor
open Go.RowKit Go.Shelf Go.Maps
set_option linter.unusedVariables false
set_option linter.unusedSimpArgs false

def TRow (w : World) (a : Option Addr) (b : Nat) (ts : List (List Nat)) : Prop := a = some ⟨b, 0, none⟩ ∧ ∀ i (hi : i < ts.length), w.cell? ⟨b, i, none⟩ = some (.string (tS ts[i]))
set_option maxRecDepth 100000 in
set_option maxHeartbeats 4000000 in
theorem numsS (keys : List (List Nat)) (a : Option Addr) (c : Nat) (w : World) (b0 : Nat) (hrd : TRow w a b0 keys) (hlt : ∀ x ∈ keys, x.length ≤ 1000000 ∧ ∀ c ∈ x, c < 128) (hl : keys.length ≤ 100000) :
 Calls Tryd.prog 71 #[.slice a keys.length c] w fun e w' => ∃ b l cnt, e = .returned (.tuple #[.slice (some ⟨b, 0, none⟩) keys.length keys.length, .int .i64 ((cnt : Nat) : Int)]) ∧ IRow w' b l ∧ NumOf keys l cnt ∧ Below w.heap.size w w' ∧ w.heap.size ≤ b := by
 obtain ⟨m, hm⟩ : ∃ m, m = keys.length := ⟨_, rfl⟩
 have HM : Hid (m = keys.length) := hm
 have hmi : (m : Int) ≤ 100000 := by omega
 have hmm := @run_makeMap Tryd.prog
 have hmk := make_i m (by omega)
 obtain ⟨wM, hwM⟩ : ∃ wM, wM = w.alloc (.map #[] 0) := ⟨_, rfl⟩
 obtain ⟨wA, hwA⟩ : ∃ wA, wA = wM.alloc (.cells (iv (List.replicate m 0)).toArray 3) := ⟨_, rfl⟩
 obtain ⟨H, hH⟩ : ∃ H, H = w.heap.size := ⟨_, rfl⟩
 have hMs : wM.heap.size = H + 1 := by rw [hwM, hH]; simp
 have HBM : Hid (Below w.heap.size w wM) := by rw [hwM]; exact (Below.refl _ w).alloc (Nat.le_refl _) _
 have HBA : Hid (Below w.heap.size w wA) := by rw [hwA]; exact HBM.out.alloc HBM.out.size _
 have HIR : Hid (IRow wA (H + 1) (List.replicate m 0)) := by show IRow _ _ _; rw [hwA, ← hMs]; exact heap_alloc_new wM _
 have HMP : Hid (wA.ownsMap Tryd.prog 9 (plainElem (H := Unit) Tryd.prog 3) H 0 (kD [])) := by rw [hwA, hwM, hH]; exact (World.ownsMap_made w _ _ _).alloc _
 have HH : Hid (w.heap.size ≤ H) := by rw [hH]; exact Nat.le_refl _
 have HRD : Hid (TRow w a b0 keys) := hrd
 obtain rfl : a = some ⟨b0, 0, none⟩ := hrd.1
 have HLT : Hid (∀ x ∈ keys, x.length ≤ 1000000 ∧ ∀ c ∈ x, c < 128) := hlt
 clear hrd hlt
 rw [← hm]
 clear hl hm hMs
 go_enter Tryd.func71, Tryd.ntmps71
 go_upto_region 3 with fail
 rw [← hH, ← hwM, ← hwA]
 clear hH hwM hwA hmm hmk
 go_wp2
 go_loopw [6, 7, 14] (fun x6 x7 x14 wr => ∃ (k : Nat) (ks : List Lit) (l : List Nat), k ≤ m ∧ x14 = .int .i64 k ∧ NuP (fun x : List Nat => Go.Lit.string (tS x).data.toList) keys k ks l ∧ wr.ownsMap Tryd.prog 9 (plainElem (H := Unit) Tryd.prog 3) H ks.length (kD ks) ∧ IRow wr (H + 1) (l ++ List.replicate (m - k) 0) ∧ Below w.heap.size w wr) (fun _ _ x14 _ => m - (intOf x14).toNat)
 case atStart => exact ⟨0, [], [], by omega, rfl, ⟨⟨List.nodup_nil, fun k hk => (by simp at hk)⟩, rfl, fun i _ hi => (by omega), rfl, by simp⟩, HMP.out, by simpa using HIR.out, HBA.out⟩
 case round =>
  obtain ⟨k, ks, l, hk, hx14, hnu, hown, hir, hbw⟩ := hrel
  subst hx14
  have HNU : Hid (NuP (fun x : List Nat => Go.Lit.string (tS x).data.toList) keys k ks l) := hnu
  have HOWN : Hid (wr.ownsMap Tryd.prog 9 (plainElem (H := Unit) Tryd.prog 3) H ks.length (kD ks)) := hown
  have HIW : Hid (IRow wr (H + 1) (l ++ List.replicate (m - k) 0)) := hir
  have HBW : Hid (Below w.heap.size w wr) := hbw
  clear hnu hown hir hbw
  by_cases hlt : k < m
  ·have hkl : k < keys.length := by rw [← HM.out]; exact hlt
   have hcc := upC HBW.out (HRD.out.2 k hkl)
   obtain ⟨X, hX⟩ : ∃ X, X = keys[k] := ⟨_, rfl⟩
   have hcl : True := trivial
   rw [← hX] at hcc
   have HXL : Hid (X = keys[k]) := hX
   have HC : Hid (Calls Tryd.prog 78 #[.map (some H), .string (tS X)] wr (NumP 9 H ks (.string (tS X).data.toList) wr)) := num_str H ks (tS X) wr HOWN.out HNU.out.keysy (by have := HNU.out.few; omega) (by rw [tS_size, hX]; have := (HLT.out _ (List.getElem_mem hkl)).1; unfold maxLen; omega)
   clear hX hcl
   go_wp2_with fail
   refine HC.out.mono ?_
   rintro e w1 ⟨i, ks', rfl, hown1, hg1, hks1, hi1, hor1⟩
   have hir1 := HIW.out.grown hg1 (by omega)
   have hlw : k < (l ++ List.replicate (m - k) 0).length := by simp [HNU.out.len]; omega
   have c1 := hir1.cell hlw
   obtain ⟨x0, hx0⟩ : ∃ x0, x0 = (l ++ List.replicate (m - k) 0)[k] := ⟨_, rfl⟩
   rw [← hx0] at c1
   have f1 := hir1.frozen k
   obtain ⟨w2, hw2⟩ : ∃ w2, w2 = w1.setCell ⟨H + 1, k, none⟩ (.int .i64 (i : Int)) := ⟨_, rfl⟩
   have HF : Hid (NuP (fun x : List Nat => Go.Lit.string (tS x).data.toList) keys (k + 1) ks' (l ++ [i]) ∧ w2.ownsMap Tryd.prog 9 (plainElem (H := Unit) Tryd.prog 3) H ks'.length (kD ks') ∧ IRow w2 (H + 1) ((l ++ [i]) ++ List.replicate (m - (k + 1)) 0) ∧ Below w.heap.size w w2) := by
    refine ⟨HNU.out.step hkl hks1 (HXL.out ▸ hi1) (HXL.out ▸ hor1), ?_, ?_, ?_⟩
    ·rw [hw2]; exact hown1.setCell (by show H ≠ H + 1; omega) _
    ·rw [hw2]
     have h1 := hir1.set k i
     have h2 : (l ++ List.replicate (m - k) 0).set k i = (l ++ [i]) ++ List.replicate (m - (k + 1)) 0 := by
      rw [List.set_append_right _ _ (by rw [HNU.out.len]; exact Nat.le_refl _), HNU.out.len, Nat.sub_self, show m - k = (m - (k + 1)) + 1 by omega, List.replicate_succ, List.set_cons_zero, List.append_assoc]
      rfl
     rw [h2] at h1
     exact h1
    ·rw [hw2]
     exact (HBW.out.grown hg1 HBW.out.size (fun j e => by cases e; exact HH.out)).setCell (p := ⟨H + 1, k, none⟩) (by show w.heap.size ≤ H + 1; have := HH.out; omega) _
   clear hown1 hg1 hks1 hi1 hor1 hir1 hx0 HC hlw
   go_wp2_with fail
   rw [← hw2]
   clear hw2 c1 f1
   go_roundw
   case rel => exact ⟨k + 1, ks', l ++ [i], by omega, by go_num, HF.out⟩
   case measure => simp [intOf]; omega
  ·obtain rfl : k = m := by omega
   have hlen := HOWN.out.len (e := 3) Tryd.underlying144
   rw [kD_size ks HNU.out.keysy] at hlen
   have HF : Hid (IRow wr (H + 1) l ∧ NumOf keys l ks.length ∧ Below w.heap.size w wr ∧ w.heap.size ≤ H + 1) := by
    have h1 := HNU.out
    rw [HM.out] at h1
    exact ⟨by have := HIW.out; rw [Nat.sub_self] at this; simpa using this, h1.done (fun i j hi hj e => tS_inj (HLT.out _ (List.getElem_mem hi)).2 (HLT.out _ (List.getElem_mem hj)).2 (Go.Lit.string.inj e)), HBW.out, by have := HH.out; omega⟩
   go_wp2
   go_ret2
   exact ⟨H + 1, l, ks.length, rfl, HF.out⟩
end Go.Proofs.YtclogekfdmikpaaDoor

/- Sets of nodes held against none. -/
namespace Go.Proofs.YtclogekfdmikpaaDoor
open Go.RowKit Go.Shelf
set_option linter.unusedVariables false
set_option linter.unusedSimpArgs false

theorem eq_ns (a0 a1 a2 a3 a4 a5 a6 : Int) (W : World) : (Op.equalIn 10000 120 (.agg #[.int .u64 a0, .int .u64 a1, .int .u64 a2, .int .u64 a3, .int .u64 a4, .int .u64 a5, .int .u64 a6]) (.agg #[.int .u64 0, .int .u64 0, .int .u64 0, .int .u64 0, .int .u64 0, .int .u64 0, .int .u64 0])).run Tryd.prog W = .ok ((a0 == 0) && (a1 == 0) && (a2 == 0) && (a3 == 0) && (a4 == 0) && (a5 == 0) && (a6 == 0)) W := by
 have u := Tryd.underlying64
 have z := Tryd.sizeOf64
 have a := Tryd.isAgg64
 obtain ⟨i0, hi, h0, h1, h2⟩ := info_parts (show (Tryd.prog.info? 64).map (fun i => (i.zero, i.size, i.bytes)) = some (some (.int .u64 0), 1, 8) by kernel_rfl)
 have hu : Tryd.prog.underlying 120 = some (.array 7 64) := by kernel_rfl
 have hc : Tryd.prog.cellsOf 64 = 1 := by kernel_rfl
 rw [show (10000 : Nat) = 9999 + 1 from rfl, run_equalIn_array W 9999 _ _ hu hi, hc, show List.range 7 = [0, 1, 2, 3, 4, 5, 6] from rfl, show (9999 : Nat) = 9998 + 1 from rfl]
 simp only [Op.eqItems]
 go_simp
 (repeat' split) <;> simp_all
theorem nw_none {X : Nat} (h : ∀ p, X.testBit p = true → p < 448) : (((nw X 0 : Int) == 0) && ((nw X 1 : Int) == 0) && ((nw X 2 : Int) == 0) && ((nw X 3 : Int) == 0) && ((nw X 4 : Int) == 0) && ((nw X 5 : Int) == 0) && ((nw X 6 : Int) == 0)) = decide (X = 0) := by
 by_cases hX : X = 0
 ·subst hX
  simp [nw_zero]
 ·rw [decide_eq_false hX, Bool.eq_false_iff]
  intro hall
  apply hX
  apply Nat.eq_of_testBit_eq
  intro p
  rw [Nat.zero_testBit, Bool.eq_false_iff]
  intro hp
  have hlt := h p hp
  simp only [Bool.and_eq_true, beq_iff_eq] at hall
  have hz : ∀ i, i < 7 → nw X i = 0 := fun i hi => by
   match i, hi with
   | 0, _ => omega
   | 1, _ => omega
   | 2, _ => omega
   | 3, _ => omega
   | 4, _ => omega
   | 5, _ => omega
   | 6, _ => omega
  have h1 := nw_bit X (p / 64) (p % 64)
  rw [hz (p / 64) (by omega), Nat.zero_testBit, show 64 * (p / 64) + p % 64 = p by omega, hp, decide_eq_true (show p % 64 < 64 by omega)] at h1
  cases h1
end Go.Proofs.YtclogekfdmikpaaDoor

/- The walk of step. -/
namespace Go.Proofs.YtclogekfdmikpaaDoor
open Go.RowKit Go.Shelf
set_option linter.unusedVariables false
set_option linter.unusedSimpArgs false
attribute [local go_sem] Oper.semAt_some

theorem tkM_lt (c : Int) (l : Pl) (p : Nat) (h : (tkM c l 0).testBit p = true) : p < l.length := by
 rw [tkM_bit] at h
 obtain ⟨j, e, h1, h2, _⟩ := h
 have := (List.getElem?_eq_some_iff.1 h2).1
 omega
def spC (S : Nat) (b : Bool) : Array Value := #[nwV S 0, nwV S 1, nwV S 2, nwV S 3, nwV S 4, nwV S 5, nwV S 6, .bool b]
theorem spC_ns (S : Nat) (b : Bool) : NsIn (spC S b) 0 S := fun i hi => by
 match i, hi with
 | 0, _ => rfl
 | 1, _ => rfl
 | 2, _ => rfl
 | 3, _ => rfl
 | 4, _ => rfl
 | 5, _ => rfl
 | 6, _ => rfl
theorem jn_sp {S T : Nat} {b : Bool} {cs' : Array Value} (h : JnP (spC S b) cs' 0 7 S T) : cs' = spC (S ||| T) b := by
 apply Array.ext_getElem?
 intro i
 by_cases hi : i < 8
 ·match i, hi with
  | 0, _ => exact (by have := h.done 0 (by omega); rw [Nat.zero_add] at this; exact this)
  | 1, _ => exact (by have := h.done 1 (by omega); rw [Nat.zero_add] at this; exact this)
  | 2, _ => exact (by have := h.done 2 (by omega); rw [Nat.zero_add] at this; exact this)
  | 3, _ => exact (by have := h.done 3 (by omega); rw [Nat.zero_add] at this; exact this)
  | 4, _ => exact (by have := h.done 4 (by omega); rw [Nat.zero_add] at this; exact this)
  | 5, _ => exact (by have := h.done 5 (by omega); rw [Nat.zero_add] at this; exact this)
  | 6, _ => exact (by have := h.done 6 (by omega); rw [Nat.zero_add] at this; exact this)
  | 7, _ => exact h.rest 7 (by omega)
 ·rw [Array.getElem?_eq_none (by rw [h.size]; show 8 ≤ i; omega), Array.getElem?_eq_none (by show 8 ≤ i; omega)]
theorem four_0 (w : World) (a b c d : Obj) : ((((w.alloc a).alloc b).alloc c).alloc d).heap[w.heap.size]? = some a :=
 (((((Below.refl _ (w.alloc a)).alloc (Nat.le_refl _) b).alloc (by simp) c).alloc (by simp; try omega) d).block w.heap.size (by simp)).trans (heap_alloc_new w a)
theorem four_1 (w : World) (a b c d : Obj) : ((((w.alloc a).alloc b).alloc c).alloc d).heap[w.heap.size + 1]? = some b := by
 have := heap_alloc_new (w.alloc a) b
 rw [show (w.alloc a).heap.size = w.heap.size + 1 by simp] at this
 exact ((((Below.refl _ ((w.alloc a).alloc b)).alloc (Nat.le_refl _) c).alloc (by simp) d).block (w.heap.size + 1) (by simp)).trans this
theorem four_2 (w : World) (a b c d : Obj) : ((((w.alloc a).alloc b).alloc c).alloc d).heap[w.heap.size + 2]? = some c := by
 have := heap_alloc_new ((w.alloc a).alloc b) c
 rw [show ((w.alloc a).alloc b).heap.size = w.heap.size + 2 by simp] at this
 exact (((Below.refl _ (((w.alloc a).alloc b).alloc c)).alloc (Nat.le_refl _) d).block (w.heap.size + 2) (by simp)).trans this
theorem four_3 (w : World) (a b c d : Obj) : ((((w.alloc a).alloc b).alloc c).alloc d).heap[w.heap.size + 3]? = some d := by
 have := heap_alloc_new (((w.alloc a).alloc b).alloc c) d
 rw [show (((w.alloc a).alloc b).alloc c).heap.size = w.heap.size + 3 by simp] at this
 exact this
theorem ns_cells {w : World} {Y : Nat} {u0 u1 u2 u3 u4 u5 u6 : Value} {t : TypeId} (h : w.heap[Y]? = some (.cells #[u0, u1, u2, u3, u4, u5, u6] t)) : w.cell? ⟨Y, 0, none⟩ = some u0 ∧ w.cell? ⟨Y, 1, none⟩ = some u1 ∧ w.cell? ⟨Y, 2, none⟩ = some u2 ∧ w.cell? ⟨Y, 3, none⟩ = some u3 ∧ w.cell? ⟨Y, 4, none⟩ = some u4 ∧ w.cell? ⟨Y, 5, none⟩ = some u5 ∧ w.cell? ⟨Y, 6, none⟩ = some u6 ∧ w.frozen? ⟨Y, 0, none⟩ = false ∧ w.frozen? ⟨Y, 1, none⟩ = false ∧ w.frozen? ⟨Y, 2, none⟩ = false ∧ w.frozen? ⟨Y, 3, none⟩ = false ∧ w.frozen? ⟨Y, 4, none⟩ = false ∧ w.frozen? ⟨Y, 5, none⟩ = false ∧ w.frozen? ⟨Y, 6, none⟩ = false :=
 ⟨cell_of_row w Y 0 _ _ _ h, cell_of_row w Y 1 _ _ _ h, cell_of_row w Y 2 _ _ _ h, cell_of_row w Y 3 _ _ _ h, cell_of_row w Y 4 _ _ _ h, cell_of_row w Y 5 _ _ _ h, cell_of_row w Y 6 _ _ _ h, Lib.frozen_of_heap h 0, Lib.frozen_of_heap h 1, Lib.frozen_of_heap h 2, Lib.frozen_of_heap h 3, Lib.frozen_of_heap h 4, Lib.frozen_of_heap h 5, Lib.frozen_of_heap h 6⟩
theorem cells_ty {a b : Array Value} {t u : TypeId} {f g : Nat × Nat} (h : some (Obj.cells a t f) = some (Obj.cells b u g)) : t = u := by
 have h1 := Option.some.inj h
 exact (Obj.cells.inj h1).2.1
end Go.Proofs.YtclogekfdmikpaaDoor
