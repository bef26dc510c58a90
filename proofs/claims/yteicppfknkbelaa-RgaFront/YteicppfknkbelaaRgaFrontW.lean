/- The walk of RgaFront: of what is put at one place the newest stands first. -/
import Derived.Test.YteicppfknkbelaaRgFm
import Derived.Test.YteicppfknkbelaaRgSz
namespace Go.Proofs.Yteicppfknkbelaa
open Go.RowKit Go.Shelf Go.Maps Go.Sort
set_option linter.unusedVariables false
set_option linter.unusedSimpArgs false

/-- The characters among the first ones. -/
def chF (xs : List Int) (i : Nat) : List Int := (xs.take i).filter chB
theorem chF_snoc (xs : List Int) (i : Nat) (h : i < xs.length) : chF xs (i + 1) = chF xs i ++ (if chB (xs.getD i 0) = true then [xs.getD i 0] else []) := by
  have e : xs.take (i + 1) = xs.take i ++ [xs.getD i 0] := by
    rw [List.take_add_one, List.getElem?_eq_getElem h]
    simp [h]
  unfold chF
  rw [e]
  generalize xs.getD i 0 = X
  rw [List.filter_append]
  congr 1
  cases hb : chB X <;> simp [hb]
theorem chF_len (xs : List Int) (i : Nat) : (chF xs i).length ≤ i := by
  unfold chF
  have := List.length_filter_le chB (xs.take i)
  rw [List.length_take] at this
  omega
theorem chF_all (xs : List Int) (i : Nat) : ∀ c ∈ chF xs i, chB c = true := fun c hc => (List.mem_filter.1 hc).2
/-- Behind i characters. -/
def FrS (w wr : World) (P : Nat) (xs : List Int) (i : Nat) (b : Option Addr) (m d : Nat) : Prop :=
  m = (chF xs i).length ∧ wr.ownsRow w.heap.size 21 1 (.slice b m d) m (flatC (chF xs i).reverse) ∧ RgS w wr P (frO (chF xs i)) (fun k => (Value.slice b m d).ownBlock = some k)
theorem own_heap {w w' : World} {B n s : Nat} {e : TypeId} {v : Value} {xs : List Value} (h : w.ownsRow B e s v n xs) (hh : ∀ k, v.ownBlock = some k → w'.heap[k]? = w.heap[k]?) : w'.ownsRow B e s v n xs := by
  obtain ⟨hl, h1 | ⟨g, cap, cur, rfl, h1, h2, h3⟩⟩ := h
  · exact ⟨hl, .inl h1⟩
  · exact ⟨hl, .inr ⟨g, cap, cur, rfl, h1, (hh g rfl).trans h2, h3⟩⟩
set_option maxHeartbeats 8000000 in
theorem rgaFront_walk (xs : List Int) (a : Option Addr) (len cap : Nat) (w : World) (hrd : RdC w a len xs) :
    Calls Try.prog 7 #[.slice a len cap] w fun e w' => e = .returned (.bool true) ∧ Below w.heap.size w w' := by
  obtain ⟨i0, ji, jz0, jz1, jz2⟩ := info_parts info_i32
  have HJ : Hid (Try.prog.info? 21 = some i0 ∧ i0.zero = some (.int .i32 0) ∧ i0.size = 1 ∧ i0.bytes = 4) := ⟨ji, jz0, jz1, jz2⟩
  have HLX : Hid (xs.length = len) := hrd.1
  have HX : Hid (∀ w', Below w.heap.size w w' → RdC w' a len xs) := fun w' h => hrd.later h
  have HSH : Hid (Calls Try.prog 9 #[] w fun e w' => e = .returned (.bool true) ∧ Below w.heap.size w w') := shown14_any w
  have HNW : Hid (∀ w1, Below w.heap.size w w1 → Calls Try.prog 10 #[] w1 fun e w' => ∃ P, e = .returned (.pointer (some ⟨P, 0, none⟩)) ∧ FrS w w' P xs 0 none 0 0) := fun w1 hb => (s_new14 hb (fun k => (Value.slice none 0 0).ownBlock = some k) (fun k h => by cases h)).mono fun e w' q => by
    obtain ⟨P, h1, h2, _⟩ := q
    exact ⟨P, h1, rfl, World.ownsRow_nil _ _ _ _, h2⟩
  have HID : Hid (∀ c a (W : World), Calls Try.prog 25 #[.int .i64 c, .int .i64 a] W fun e w' => e = .returned (.agg #[.int .i64 c, .int .i64 a]) ∧ Gw W w') := fun c a W => id_any c a W
  have HSZ : Hid (∀ c (W : World), Calls Try.prog 24 #[.int .i32 c] W fun e w' => ∃ n : Int, e = .returned (.int .i64 n) ∧ (n == 0) = !chB c ∧ w' = W) := fun c W => (refSizeZ_any c W).mono fun e w' q => by obtain ⟨n, h1, h2, h3⟩ := q; exact ⟨n, h1, h2.1, h3⟩
  have HSB : Hid (∀ wr P i b m d, FrS w wr P xs i b m d → Below w.heap.size w wr) := fun wr P i b m d h => h.2.2.below
  clear hrd ji jz0 jz1 jz2
  go_enter Try.func7, Try.ntmps7
  go_upto_region 8 with (first
    | (go_at_call 9; refine HSH.out.mono ?_; rintro e w1 ⟨rfl, hb⟩; have HB1 : Hid (Below w.heap.size w w1) := hb; clear hb)
    | (go_at_call 10; refine (HNW.out _ HB1.out).mono ?_; rintro e w2 ⟨P, rfl, hs⟩; have HS0 : Hid (FrS w w2 P xs 0 none 0 0) := hs; clear hs))
  have HPT : Hid (∀ wr P i b m d c, FrS w wr P xs i b m d → i < 30 → chB c = true → Calls Try.prog 12 #[.pointer (some ⟨P, 0, none⟩), .agg #[.int .i64 ((m : Int) + 1), .int .i64 7, .int .i64 ((m : Int) + 1), .bool true, .int .i64 0, .int .i64 0, .int .i32 c]] wr fun e w' => e = .returned (.tuple #[.bool true, .int .i64 0]) ∧ Below w.heap.size w w' ∧ w'.ownsRow w.heap.size 21 1 (.slice b m d) m (flatC (chF xs i).reverse) ∧ RgS w w' P (frO (chF xs i ++ [c])) (fun k => (Value.slice b m d).ownBlock = some k)) := by
    intro wr P i b m d c hF hi hc
    obtain ⟨h1, h2, h3⟩ := hF
    have hl := chF_len xs i
    obtain ⟨p1, p2⟩ := fr_put (chF xs i) c (by omega) (chF_all xs i) hc
    have := s_put h3 (opF (chF xs i).length c) (by rw [frO_len]; omega)
    rw [p1, p2] at this
    rw [h1]
    rw [h1] at h2 h3
    refine this.mono fun e w' q => ?_
    obtain ⟨q1, q2, q3, q4⟩ := q
    rw [h1] at q2 q3
    exact ⟨q1, q2.below, own_heap h2 q3, q2⟩
  have HGW : Hid (∀ wr w' P i b m d, FrS w wr P xs i b m d → Gw wr w' → FrS w w' P xs i b m d) := fun wr w' P i b m d h hg => ⟨h.1, own_laterX h.2.1 hg.below, h.2.2.later hg.below⟩
  have HNO : Hid (∀ wr P i b m d, FrS w wr P xs i b m d → i < len → chB (xs.getD i 0) = false → FrS w wr P xs (i + 1) b m d) := fun wr P i b m d h hi hc => by
    have e : chF xs (i + 1) = chF xs i := by rw [chF_snoc xs i (by rw [HLX.out]; exact hi), if_neg (by rw [hc]; decide), List.append_nil]
    unfold FrS
    rw [e]
    exact h
  have HVS : Hid (∀ wr P i b m d, i ≤ 30 → FrS w wr P xs i b m d → Calls Try.prog 14 #[.pointer (some ⟨P, 0, none⟩)] wr fun e w' => ∃ a' c', e = .returned (.slice a' m c') ∧ True ∧ True ∧ Calls Try.prog 13 #[.slice a' m c', .slice b m d] w' fun e w2 => e = .returned (.bool true) ∧ Below w.heap.size w w2) := by
    intro wr P i b m d hi hF
    have hl := chF_len xs i
    refine (s_vis hF.2.2 (by rw [frO_len]; omega)).mono fun e w' q => ?_
    obtain ⟨v, rfl, q1, q2⟩ := q
    rw [fr_vis (chF xs i) (by omega) (chF_all xs i), List.length_reverse, ← hF.1] at q1
    obtain ⟨a', c', rfl, _, _, r1⟩ := rdC_own q1
    obtain ⟨a2, c2, hv, _, _, r2⟩ := rdC_own (own_laterX hF.2.1 q2)
    cases hv
    refine ⟨a', c', rfl, trivial, trivial, (sameC_any _ _ a' b m c' m d w' r1 r2 (by rw [hF.1]; omega)).mono fun e w2 z => ?_⟩
    rw [decide_eq_true rfl] at z
    exact ⟨z.1, (hF.2.2.below.trans (q2.mono hF.2.2.below.size)).trans (z.2.below.mono (hF.2.2.below.trans (q2.mono hF.2.2.below.size)).size)⟩
  go_loopw [7, 6, 5] (fun x7 x6 x5 wr => ∃ (i m : Nat) (b : Option Addr) (d : Nat), x7 = .int .i64 (i : Int) ∧ x6 = .int .i64 (m : Int) ∧ x5 = .slice b m d ∧ i ≤ len ∧ i ≤ 30 ∧ FrS w wr P xs i b m d) (fun x7 _ _ _ => 30 - (RowKit.intOf x7).toNat)
  case atStart => exact ⟨0, 0, none, 0, rfl, rfl, rfl, by omega, by omega, HS0.out⟩
  case round =>
    obtain ⟨i, m, b, d, h7, h6, h5, hil, hi30, hs⟩ := hrel
    subst h7 h6 h5
    have HS : Hid (FrS w wr P xs i b m d) := hs
    clear hs HS0
    by_cases hlt : i < len
    · have hd1 : decide ((i : Int) < (len : Int)) = true := by simpa using hlt
      by_cases h30 : i < 30
      · have hd2 : decide ((i : Int) < 30) = true := decide_eq_true (by omega)
        obtain ⟨b1, o1, hab, c0⟩ := (HX.out wr (HSB.out _ _ _ _ _ _ HS.out)).at i hlt
        subst hab
        have hno := HNO.out wr P i b m d HS.out hlt
        have hpt := HPT.out wr P i b m d (xs.getD i 0) HS.out h30
        have hmi : m ≤ 30 := by rw [HS.out.1]; exact Nat.le_trans (chF_len xs i) (by omega)
        have HXX : Hid (∀ w', Below w.heap.size w w' → w'.cell? ⟨b1, o1 + i, none⟩ = some (.int .i32 (xs.getD i 0))) := fun w' hb => by
          obtain ⟨b9, o9, h9, c9⟩ := (HX.out w' hb).at i hlt
          cases h9
          exact c9
        have HAP : Hid (chB (xs.getD i 0) = true → ∀ w3, w3.ownsRow w.heap.size 21 1 (.slice b m d) m (flatC (chF xs i).reverse) → RgS w w3 P (frO (chF xs i ++ [xs.getD i 0])) (fun k => (Value.slice b m d).ownBlock = some k) → ∀ v w4, w4.ownsRow w3.heap.size 21 1 v (1 + m) ([.int .i32 (xs.getD i 0)] ++ (chF xs i).reverse.map (Value.int .i32)) → Below w3.heap.size w3 w4 → ∃ b' d', v = .slice b' (m + 1) d' ∧ FrS w w4 P xs (i + 1) b' (m + 1) d') := by
          intro hc w3 h1 h2 v w4 h3 h4
          have e : chF xs (i + 1) = chF xs i ++ [xs.getD i 0] := by rw [chF_snoc xs i (by rw [HLX.out]; exact hlt), if_pos hc]
          obtain ⟨b', d', rfl, _, _⟩ := own_sl h3
          rw [Nat.add_comm 1 m] at h3 ⊢
          refine ⟨b', d', rfl, ?_, ?_, ?_⟩
          · rw [e, List.length_append, HS.out.1]; rfl
          · rw [e, List.reverse_append]
            exact ownsRow_base_a h3 h2.below.size
          · rw [e]
            exact h2.more h4 fun k hk => .inr (h3.lt k hk)
        have HGO := HGW.out
        generalize hcX : xs.getD i 0 = X at *
        have HRC : Hid ((chF xs i).reverse.length = m) := by
          have := HS.out.1
          rw [List.length_reverse]; exact this.symm
        have HFC : Hid (∀ w3, w3.ownsRow w.heap.size 21 1 (.slice b m d) m (flatC (chF xs i).reverse) → Rd .i32 w3 b m (chF xs i).reverse ∧ (b = none → d = 0)) := fun w3 h => by
          rcases h.2 with ⟨q, q0⟩ | ⟨g, cap', cur, q, _, hg, hn, hm2, hs2, ht⟩
          · injection q with q1 q2 q3
            subst q1 q3
            exact ⟨⟨HRC.out, fun hp => by omega⟩, fun _ => rfl⟩
          · obtain ⟨a', c', hv, _, _, hr⟩ := rdC_own h
            cases hv
            injection q with q1 q2 q3
            subst q1
            exact ⟨hr, fun h => by cases h⟩
        generalize hRV : (chF xs i).reverse = RV at *
        cases hc : chB X
        · have HN : Hid (FrS w wr P xs (i + 1) b m d) := hno hc
          clear hno hpt HAP HFC HXX HRC HGO hcX hRV
          go_wp2_with (first | (go_at_call 24; refine (HSZ.out _ _).mono ?_; rintro e w' ⟨n, rfl, hn, hw⟩; have hw := hw.symm; subst hw; rw [hc] at hn; have hn2 : (n == 0) = true := hn; clear hn))
          go_roundw
          case rel => exact ⟨i + 1, m, b, d, (by go_num), rfl, rfl, (by omega), (by omega), HN.out⟩
          case measure => simp [RowKit.intOf]; omega
        · have HPU : Hid (∀ w9, Gw wr w9 → Calls Try.prog 12 #[.pointer (some ⟨P, 0, none⟩), .agg #[.int .i64 ((m : Int) + 1), .int .i64 7, .int .i64 ((m : Int) + 1), .bool true, .int .i64 0, .int .i64 0, .int .i32 X]] w9 fun e w' => e = .returned (.tuple #[.bool true, .int .i64 0]) ∧ Below w.heap.size w w' ∧ w'.ownsRow w.heap.size 21 1 (.slice b m d) m (flatC RV) ∧ RgS w w' P (frO (chF xs i ++ [X])) (fun k => (Value.slice b m d).ownBlock = some k)) := fun w9 hg => by
            have := HPT.out w9 P i b m d X (HGO _ _ _ _ _ _ _ HS.out hg) h30 hc
            rw [hRV] at this
            exact this
          have HAQ := HAP.out hc
          have HAR : Hid _ := HAQ
          have HBW : Hid (Below w.heap.size w wr) := HSB.out _ _ _ _ _ _ HS.out
          clear hno hpt HAP HRC HGO hcX hRV HAQ
          generalize frO (chF xs i ++ [X]) = FO at *
          go_upto_region 12 with (first | (go_at_call 24; refine (HSZ.out _ _).mono ?_; rintro e w' ⟨n, rfl, hn, hw⟩; have hw := hw.symm; subst hw; rw [hc] at hn; have hn2 : (n == 0) = false := hn; clear hn))
          go_region_with (first
            | (go_at_call 25; refine (HID.out _ _ _).mono ?_; rintro e wi ⟨rfl, hg⟩; have HGI : Hid (Gw wr wi) := (gw_drewN wr 1).trans hg; have ci := HXX.out wi (HBW.out.trans (HGI.out.below.mono HBW.out.size)); clear hg)
            | (go_at_call 12; refine (HPU.out _ HGI.out).mono ?_; rintro e w3 ⟨rfl, q1, q2, q3⟩; have HZ : Hid (Below w.heap.size w w3 ∧ w3.ownsRow w.heap.size 21 1 (.slice b m d) m (flatC RV) ∧ RgS w w3 P FO (fun k => (Value.slice b m d).ownBlock = some k)) := ⟨q1, q2, q3⟩; clear q1 q2 q3))
          all_goals
            have HO1 : Hid ((w3.alloc (.cells #[.int .i32 X] 21)).ownsRow w3.heap.size 21 1 (.slice (some ⟨w3.heap.size, 0, none⟩) 1 1) 1 [.int .i32 X]) := World.ownsRow_lit w3 #[.int .i32 X] 1 (Nat.le_refl _) (by unfold maxLen; omega) rfl
            have c3 := HXX.out w3 HZ.out.1
            obtain ⟨rc1, rc2⟩ := HFC.out w3 HZ.out.2.1
            have HRB : Hid (Rd .i32 (w3.alloc (.cells #[.int .i32 X] 21)) b m RV ∧ (b = none → d = 0)) := ⟨rc1.later (gw_alloc w3 _).below, rc2⟩
            have HMI : Hid (m ≤ 30) := hmi
            have HAE : Hid (∀ v w4, w4.ownsRow w3.heap.size 21 1 v (1 + m) ([.int .i32 X] ++ RV.map (Value.int .i32)) → (w3.alloc (.cells #[.int .i32 X] 21)).grownBy w4 (some w3.heap.size) → ∃ b' d', v = .slice b' (m + 1) d' ∧ FrS w w4 P xs (i + 1) b' (m + 1) d') := fun v w4 h1 h2 => by
              refine HAR.out w3 HZ.out.2.1 HZ.out.2.2 v w4 h1 ?_
              exact ((gw_alloc w3 _).below).grown h2 (by simp) (fun k hk => by cases hk; exact Nat.le_refl _)
            clear rc1 rc2 HAR HFC HXX ci HPU HGI
            go_upto_region 15 with fail
            go_wp2_with (at_builtin; refine wpList_append_rd rfl _ _ 36 rfl w3.heap.size 21 i0 _ 4 Try.underlying36 HJ.out.1 HJ.out.2.1 HJ.out.2.2.1 HJ.out.2.2.2 rfl _ 1 [.int .i32 X] rfl HO1.out b m d .i32 RV rfl HRB.out.1 HRB.out.2 (by have := HMI.out; unfold maxLen; omega) (by have := HMI.out; omega) (by simp) (fun v w4 h1 h2 => ?_); have h9 := HAE.out v w4 h1 h2; clear h1 h2; obtain ⟨b', d', hv', hf'⟩ := h9; subst hv'; have HF9 : Hid (FrS w w4 P xs (i + 1) b' (m + 1) d') := hf'; clear hf')
            go_roundw
            case rel => exact ⟨i + 1, m + 1, b', d', (by go_num), (by go_num), rfl, (by omega), (by omega), HF9.out⟩
            case measure => simp [RowKit.intOf]; omega
      · have hd2 : decide ((i : Int) < 30) = false := decide_eq_false (by omega)
        clear HNO HPT HGW HX
        go_wp2_with (first
          | (go_at_call 14; refine (HVS.out _ _ _ _ _ _ (by omega) HS.out).mono ?_; rintro e w5 ⟨a5, c5, rfl, q1, q2, q3⟩; have HQ5 : Hid (Calls Try.prog 13 #[.slice a5 m c5, .slice b m d] w5 fun e w' => e = .returned (.bool true) ∧ Below w.heap.size w w') := q3; clear q1 q2 q3)
          | (go_at_call 13; refine HQ5.out.mono ?_; rintro e w6 ⟨rfl, q⟩; have HQ6 : Hid (Below w.heap.size w w6) := q; clear q))
        go_ret
        exact ⟨rfl, HQ6.out⟩
    · have hd1 : decide ((i : Int) < (len : Int)) = false := by simpa using hlt
      clear HNO HPT HGW HX
      go_wp2_with (first
        | (go_at_call 14; refine (HVS.out _ _ _ _ _ _ (by omega) HS.out).mono ?_; rintro e w5 ⟨a5, c5, rfl, q1, q2, q3⟩; have HQ5 : Hid (Calls Try.prog 13 #[.slice a5 m c5, .slice b m d] w5 fun e w' => e = .returned (.bool true) ∧ Below w.heap.size w w') := q3; clear q1 q2 q3)
        | (go_at_call 13; refine HQ5.out.mono ?_; rintro e w6 ⟨rfl, q⟩; have HQ6 : Hid (Below w.heap.size w w6) := q; clear q))
      go_ret
      exact ⟨rfl, HQ6.out⟩
end Go.Proofs.Yteicppfknkbelaa
