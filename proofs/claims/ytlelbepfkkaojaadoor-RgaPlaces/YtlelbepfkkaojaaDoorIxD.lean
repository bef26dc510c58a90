/- The walks of an index's New, Seen, Rank, Select. -/
import Derived.Test.YtlelbepfkkaojaaDoorIxC
namespace Go.Proofs.YtlelbepfkkaojaaDoor
open Go.RowKit
set_option linter.unusedVariables false
set_option linter.unusedSimpArgs false

/-- An index without marks. -/
def IxNew (W : World) : World := W.alloc (.cells #[.int .i64 0, .int .i64 0, .slice none 0 0] 62)
theorem new_any (W : World) : Calls Tryd.prog 15 #[] W fun e w' => e = .returned (.pointer (some ⟨W.heap.size, 0, none⟩)) ∧ w' = IxNew W := by
  unfold IxNew
  go_enter Tryd.func15, Tryd.ntmps15
  go_wp2
  go_ret
  exact ⟨rfl, rfl⟩
theorem new_at (W : World) (B : Nat) (hB : B ≤ W.heap.size) : IxAt (IxNew W) W.heap.size B (.slice none 0 0) [] :=
  ⟨[], fun b hb => by simp at hb, rfl, heap_alloc_new W _, World.ownsRow_nil _ _ _ _, by simp [Value.ownBlock], hB⟩
theorem new_below (W : World) : Below W.heap.size W (IxNew W) := (Below.refl _ W).alloc (Nat.le_refl _) _
/-- Whether a mark is seen, wherever. -/
def seenB (L : List Bool) (a : Int) : Bool := decide (0 ≤ a) && L.getD a.toNat false
set_option maxHeartbeats 1000000 in
theorem seen_any (P B : Nat) (v : Value) (L : List Bool) (a : Int) (W : World) (h : IxAt W P B v L) (hL : L.length ≤ 100000) :
    Calls Tryd.prog 27 #[.pointer (some ⟨P, 0, none⟩), .int .i64 a] W fun e w' => e = .returned (.bool (seenB L a)) ∧ w' = W := by
  obtain ⟨Bs, hg, hf, hx⟩ := h
  have hbl : Bs.length ≤ L.length := by
    rw [← hf]
    clear hx hf
    induction Bs with
    | nil => simp
    | cons b r ih =>
      have h1 := (hg b (by simp)).1
      have h2 := ih (fun x hx => hg x (by simp [hx]))
      rw [List.flatten_cons, List.length_append, List.length_cons]
      omega
  have HH : Hid (Calls Tryd.prog 43 #[.pointer (some ⟨P, 0, none⟩), .int .i64 a] W fun e w' => e = .returned (.bool (hasI L.length a)) ∧ w' = W) := thas_any L.length a P 0 W hx.cells.1
  obtain ⟨_, _, c2, _⟩ := hx.cells
  by_cases hin : 0 ≤ a ∧ a < (L.length : Int)
  · obtain ⟨n, rfl⟩ : ∃ n : Nat, a = (n : Int) := ⟨a.toNat, by omega⟩
    have hh : hasI L.length (n : Int) = true := by unfold hasI; simp only [decide_eq_true hin.1, decide_eq_true hin.2, Bool.true_and]
    rw [hh] at HH
    obtain ⟨i, p, f1, f2, f3, f4⟩ := fnd_in Bs n (by rw [hf]; omega)
    have HF : Hid (Calls Tryd.prog 44 #[.pointer (some ⟨P, 0, none⟩), .int .i64 (n : Int)] W fun e w' => e = .returned (.tuple #[.int .i64 (i : Int), .int .i64 (p : Int)]) ∧ w' = W) := by
      have := find_any P B _ _ v Bs (n : Int) W hx (by omega) (by omega) (by omega)
      rw [f1] at this
      exact this
    obtain ⟨g, cap, A, D, rfl, hb, _, hcap, hcm, _⟩ := own_blk hx.2.1 i f2
    have HS : Hid (Calls Tryd.prog 45 #[.pointer (some ⟨g, i * 3, none⟩), .int .i64 (p : Int)] W fun e w' => e = .returned (.bool (seenB L (n : Int))) ∧ w' = W) := by
      have := sees_any (Bs.getD i []) p g (i * 3) A D W f3 (good_at hg i f2).2 hb
      rw [← getD_flat Bs i p f2 f3, ← f4, hf] at this
      have e : seenB L (n : Int) = L.getD n false := by unfold seenB; rw [decide_eq_true (by omega), Bool.true_and]; rfl
      rw [e]
      exact this
    have hi0 : (0 : Int) ≤ (i : Int) := by omega
    have hi1 : (i : Int) < (Bs.length : Int) := by omega
    generalize Bs.length = N at c2 hi1
    generalize seenB L (n : Int) = R at HS ⊢
    clear hx hg hf hin hh hL hbl f1 f2 f3 f4 hb hcap
    go_enter Tryd.func27, Tryd.ntmps27
    go_wp2_with (first | (go_at_call 43; refine HH.out.mono ?_; rintro e w' ⟨rfl, rfl⟩) | (go_at_call 44; refine HF.out.mono ?_; rintro e w' ⟨rfl, rfl⟩) | (go_at_call 45; refine HS.out.mono ?_; rintro e w' ⟨rfl, rfl⟩))
    go_ret
    exact ⟨rfl, rfl⟩
  · have hh : hasI L.length a = false := by
      unfold hasI
      rw [← Bool.decide_and]
      exact decide_eq_false hin
    rw [hh] at HH
    have e : seenB L a = false := by
      unfold seenB
      by_cases h0 : 0 ≤ a
      · have : L.length ≤ a.toNat := by omega
        rw [List.getD_eq_getElem?_getD, List.getElem?_eq_none this]; simp
      · rw [decide_eq_false h0]; rfl
    rw [e]
    clear hx hg hf hin hh hL hbl e c2
    go_enter Tryd.func27, Tryd.ntmps27
    go_wp2_with (first | (go_at_call 43; refine HH.out.mono ?_; rintro e w' ⟨rfl, rfl⟩))
    go_ret
    exact ⟨rfl, rfl⟩
theorem blocks_le {Bs : List (List Bool)} {L : List Bool} (hg : GoodB Bs) (hf : Bs.flatten = L) : Bs.length ≤ L.length := by
  rw [← hf]
  clear hf
  induction Bs with
  | nil => simp
  | cons b r ih =>
    have h1 := (hg b (by simp)).1
    have h2 := ih (fun x hx => hg x (by simp [hx]))
    rw [List.flatten_cons, List.length_append, List.length_cons]
    omega
theorem max_run (x y : Int) (W : World) : (Builtin.max_ #[3, 3] 3 #[.int .i64 x, .int .i64 y]).run Tryd.prog W = .ok (.int .i64 (max x y)) W := by
  rw [run_max_int2]
  congr 2
  split <;> omega
theorem cntA_le (Bs : List (List Bool)) (i : Nat) : cntA Bs i ≤ Bs.flatten.length ∧ (Bs.take i).flatten.length ≤ Bs.flatten.length := by
  unfold cntA
  have h1 := cnt_le (Bs.take i).flatten
  have h2 := congrArg List.length (congrArg List.flatten (List.take_append_drop i Bs))
  rw [List.flatten_append, List.length_append] at h2
  omega
set_option maxHeartbeats 2000000 in
theorem rankX_any (P B : Nat) (v : Value) (L : List Bool) (a : Int) (W : World) (h : IxAt W P B v L) (hL : L.length ≤ 100000) (ha : a ≤ 9223372036854775807) :
    Calls Tryd.prog 26 #[.pointer (some ⟨P, 0, none⟩), .int .i64 a] W fun e w' => e = .returned (.int .i64 (rnk L a : Int)) ∧ ∃ q, w' = W.drewN q := by
  obtain ⟨Bs, hg, hf, hx⟩ := h
  have hbl := blocks_le hg hf
  obtain ⟨_, _, c2, _⟩ := hx.cells
  obtain ⟨sa, cap, rfl, hcap, _⟩ := own_sl hx.2.1
  obtain ⟨m, hm⟩ : ∃ m, m = max 0 a := ⟨_, rfl⟩
  have hmx : ∀ W : World, (Builtin.max_ #[3, 3] 3 #[.int .i64 0, .int .i64 a]).run Tryd.prog W = .ok (.int .i64 m) W := fun W => by rw [hm]; exact max_run 0 a W
  have HM : Hid (0 ≤ m ∧ m ≤ 9223372036854775807) := by show 0 ≤ m ∧ m ≤ _; omega
  have HR : Hid (rnk L a = rnk Bs.flatten m) := by show _ = _; rw [hf, hm, rnk_max]
  have HFL : Hid (Bs.flatten.length ≤ 100000) := by show _ ≤ _; rw [hf]; exact hL
  have HB : Hid (∀ i, i < Bs.length → ∃ g A D, sa = some ⟨g, 0, none⟩ ∧ BkAt W g (i * 3) A D (Bs.getD i []) ∧ (Bs.getD i []).length ≤ 64) := by
    intro i hi
    obtain ⟨g, cap', A, D, hv, hb, _⟩ := own_blk hx.2.1 i hi
    cases hv
    exact ⟨g, A, D, rfl, hb, (good_at hg i hi).2⟩
  obtain ⟨N, hN⟩ : ∃ N, N = Bs.length := ⟨_, rfl⟩
  rw [← hN] at c2
  have HN : Hid (N = Bs.length ∧ N ≤ 100000) := ⟨hN, by omega⟩
  obtain ⟨R, hRR⟩ : ∃ R : Nat, rnk L a = R := ⟨_, rfl⟩
  rw [hRR] at HR ⊢
  clear hx hcap hbl hN hg hf hm hL ha hRR
  go_enter Tryd.func26, Tryd.ntmps26
  go_wp2
  go_loopw [15, 1, 5] (fun x15 x1 x5 wr => ∃ i : Nat, x15 = .int .i64 (i : Int) ∧ x1 = .int .i64 (leftA Bs i m) ∧ x5 = .int .i64 (cntA Bs i : Int) ∧ i ≤ N ∧ 0 ≤ leftA Bs i m ∧ leftA Bs i m ≤ m ∧ wr = W) (fun x15 x1 x5 _ => N - (intOf x15).toNat)
  case atStart => exact ⟨0, rfl, by simp [leftA], by simp [cntA, cnt], by omega, by have := HM.out; simp [leftA]; omega, by simp [leftA], rfl⟩
  case round =>
    obtain ⟨i, hx, hx1, hx5, hik, hlo, hup, hwr⟩ := hrel
    subst hx hx1 hx5 hwr
    by_cases hlt : i < N
    · have hlt' : decide ((i : Int) < (N : Int)) = true := by simpa using hlt
      have hib : i < Bs.length := by rw [← HN.out.1]; exact hlt
      obtain ⟨g, A, D, rfl, hb, h64⟩ := HB.out i hib
      have HLN : Hid (Calls Tryd.prog 41 #[.pointer (some ⟨g, i * 3, none⟩)] wr fun e w' => e = .returned (.int .i64 ((Bs.getD i []).length : Int)) ∧ w' = wr) := tlen_any _ g (i * 3) wr hb.cells.1
      have HCN : Hid (Calls Tryd.prog 23 #[.pointer (some ⟨g, i * 3, none⟩)] wr fun e w' => e = .returned (.int .i64 (cnt (Bs.getD i []) : Int)) ∧ w' = wr) := tcount_any _ g (i * 3) wr hb.cells.2.1
      have hi0 : (0 : Int) ≤ (i : Int) := by omega
      have hiN : (i : Int) < (N : Int) := by omega
      by_cases hin : leftA Bs i m < ((Bs.getD i []).length : Int)
      · obtain ⟨p, hp⟩ : ∃ p : Nat, leftA Bs i m = (p : Int) := ⟨(leftA Bs i m).toNat, by omega⟩
        have hd : decide ((p : Int) < ((Bs.getD i []).length : Int)) = true := by rw [← hp]; simpa using hin
        have HRK : Hid (Calls Tryd.prog 42 #[.pointer (some ⟨g, i * 3, none⟩), .int .i64 (p : Int)] wr fun e w' => e = .returned (.int .i64 (cnt ((Bs.getD i []).take p) : Int)) ∧ ∃ q, w' = wr.drewN q) := rank_any (Bs.getD i []) p g (i * 3) A D wr (by omega) h64 hb
        have HE : Hid (R = cntA Bs i + cnt ((Bs.getD i []).take p)) := by
          rw [rnk_at Bs i p hib (by omega) m hp] at HR
          exact HR
        have hw : wrap64 ((cntA Bs i : Int) + (cnt ((Bs.getD i []).take p) : Int)) = (R : Int) := by
          have h1 := (cntA_le Bs i).1
          have h2 := cnt_le ((Bs.getD i []).take p)
          rw [List.length_take] at h2
          have := HFL.out
          have := HE.out
          unfold wrap64; omega
        rw [hp]
        clear hin hlo hup hlt hik hb h64 hp HE HB HCN
        generalize (cntA Bs i : Int) = x at hw
        generalize (cnt ((Bs.getD i []).take p) : Int) = z at hw HRK
        generalize ((Bs.getD i []).length : Int) = y at hd HLN
        go_wp2_with (first | (go_at_call 41; refine HLN.out.mono ?_; rintro e w' ⟨rfl, rfl⟩) | (go_at_call 42; refine HRK.out.mono ?_; rintro e w' ⟨rfl, q, rfl⟩))
        go_ret
        exact ⟨ret_int hw, q, rfl⟩
      · have hd : decide (leftA Bs i m < ((Bs.getD i []).length : Int)) = false := by simpa using hin
        have e1 := left_next Bs i hib m
        have e2 := cntA_next Bs i hib
        have hwp : wrap64 (leftA Bs i m - ((Bs.getD i []).length : Int)) = leftA Bs (i + 1) m := by
          have := HM.out
          rw [e1]; unfold wrap64; omega
        have hwc : wrap64 ((cntA Bs i : Int) + (cnt (Bs.getD i []) : Int)) = (cntA Bs (i + 1) : Int) := by
          have h1 := (cntA_le Bs i).1
          have h2 := cnt_le (Bs.getD i [])
          have := HFL.out
          rw [e2]; unfold wrap64; omega
        have hi1 : (i : Int) + 1 ≤ 100000001 := by have := HN.out; omega
        have HX : Hid (i + 1 ≤ N ∧ 0 ≤ leftA Bs (i + 1) m ∧ leftA Bs (i + 1) m ≤ m) := ⟨hlt, by rw [e1]; omega, by rw [e1]; omega⟩
        clear hin hlo hup hlt hik hb h64 e1 e2 HB HR
        generalize leftA Bs i m = x at hd hwp
        generalize ((Bs.getD i []).length : Int) = y at hd HLN hwp
        generalize (cntA Bs i : Int) = z at hwc
        generalize (cnt (Bs.getD i []) : Int) = u at hwc HCN
        go_wp2_with (first | (go_at_call 41; refine HLN.out.mono ?_; rintro e w' ⟨rfl, rfl⟩) | (go_at_call 23; refine HCN.out.mono ?_; rintro e w' ⟨rfl, rfl⟩))
        go_roundw
        case rel => exact ⟨i + 1, by rw [Int.natCast_add]; rfl, rfl, congrArg _ hwc, HX.out.1, HX.out.2.1, HX.out.2.2, trivial⟩
        case measure => have := HX.out.1; simp [intOf]; omega
    · have hlt' : decide ((i : Int) < (N : Int)) = false := by simpa using hlt
      obtain rfl : i = N := by omega
      have HE : Hid (R = cntA Bs i) := by
        rw [rnk_end Bs m (by rw [← HN.out.1]; exact hlo)] at HR
        show R = _
        rw [HR.out]
        unfold cntA
        rw [HN.out.1, List.take_length]
      clear hlt hik hlo hup HB
      rw [← HE.out]
      generalize leftA Bs i m = x
      go_wp2
      go_ret
      exact ⟨rfl, 0, rfl⟩
/-- What Select tells. -/
def selI (L : List Bool) (k : Int) : Int := if 0 ≤ k ∧ k < (cnt L : Int) then (sel L k.toNat : Int) else 0
def selB (L : List Bool) (k : Int) : Bool := decide (0 ≤ k) && decide (k < (cnt L : Int))
set_option maxHeartbeats 2000000 in
theorem select_any (P B : Nat) (v : Value) (L : List Bool) (k : Int) (W : World) (h : IxAt W P B v L) (hL : L.length ≤ 100000) (hk : k ≤ 9223372036854775807) (hT : TabD W) :
    Calls Tryd.prog 25 #[.pointer (some ⟨P, 0, none⟩), .int .i64 k] W fun e w' => e = .returned (.tuple #[.int .i64 (selI L k), .bool (selB L k)]) ∧ w' = W := by
  by_cases h0 : k < 0
  · have e1 : selI L k = 0 := by unfold selI; rw [if_neg (by omega)]
    have e2 : selB L k = false := by unfold selB; rw [decide_eq_false (by omega)]; rfl
    rw [e1, e2]
    clear h hL hT e1 e2 hk
    go_enter Tryd.func25, Tryd.ntmps25
    go_wp2
    go_ret2
    exact ⟨rfl, rfl⟩
  obtain ⟨n, rfl⟩ : ∃ n : Nat, k = (n : Int) := ⟨k.toNat, by omega⟩
  obtain ⟨Bs, hg, hf, hx⟩ := h
  have hbl := blocks_le hg hf
  obtain ⟨_, _, c2, _⟩ := hx.cells
  obtain ⟨sa, cap, rfl, hcap, _⟩ := own_sl hx.2.1
  obtain ⟨R, hR⟩ : ∃ R, R = selI L (n : Int) := ⟨_, rfl⟩
  obtain ⟨Z, hZ⟩ : ∃ Z, Z = selB L (n : Int) := ⟨_, rfl⟩
  have HR1 : Hid (n < cnt Bs.flatten → R = (sel Bs.flatten n : Int) ∧ Z = true) := by
    intro hn
    rw [hf] at hn ⊢
    refine ⟨by rw [hR, selI, if_pos (by omega)]; rfl, by rw [hZ, selB, decide_eq_true (by omega), decide_eq_true (by omega)]; rfl⟩
  have HR2 : Hid (cnt Bs.flatten ≤ n → R = 0 ∧ Z = false) := by
    intro hn
    rw [hf] at hn
    refine ⟨by rw [hR, selI, if_neg (by omega)], by rw [hZ, selB, decide_eq_false (p := (n : Int) < _) (by omega), Bool.and_false]⟩
  rw [← hR, ← hZ]
  have HFL : Hid (Bs.flatten.length ≤ 100000) := by show _ ≤ _; rw [hf]; exact hL
  have HB : Hid (∀ i, i < Bs.length → ∃ g A D, sa = some ⟨g, 0, none⟩ ∧ BkAt W g (i * 3) A D (Bs.getD i []) ∧ (Bs.getD i []).length ≤ 64) := by
    intro i hi
    obtain ⟨g, cap', A, D, hv, hb, _⟩ := own_blk hx.2.1 i hi
    cases hv
    exact ⟨g, A, D, rfl, hb, (good_at hg i hi).2⟩
  obtain ⟨N, hN⟩ : ∃ N, N = Bs.length := ⟨_, rfl⟩
  rw [← hN] at c2
  have HN : Hid (N = Bs.length ∧ N ≤ 100000) := ⟨hN, by omega⟩
  have HT : Hid (TabD W) := hT
  have HK : Hid ((n : Int) ≤ 9223372036854775807) := hk
  clear hx hcap hbl hN hg hf hL hR hZ hT hk
  go_enter Tryd.func25, Tryd.ntmps25
  go_wp2
  go_loopw [16, 1, 6] (fun x16 x1 x6 wr => ∃ i : Nat, x16 = .int .i64 (i : Int) ∧ x1 = .int .i64 ((n - cntA Bs i : Nat) : Int) ∧ x6 = .int .i64 ((Bs.take i).flatten.length : Int) ∧ i ≤ N ∧ cntA Bs i ≤ n ∧ wr = W) (fun x16 x1 x6 _ => N - (intOf x16).toNat)
  case atStart => exact ⟨0, rfl, by simp [cntA, cnt], by simp, by omega, by simp [cntA, cnt], rfl⟩
  case round =>
    obtain ⟨i, hx, hx1, hx6, hik, hlo, hwr⟩ := hrel
    subst hx hx1 hx6 hwr
    by_cases hlt : i < N
    · have hlt' : decide ((i : Int) < (N : Int)) = true := by simpa using hlt
      have hib : i < Bs.length := by rw [← HN.out.1]; exact hlt
      obtain ⟨g, A, D, rfl, hb, h64⟩ := HB.out i hib
      have HLN : Hid (Calls Tryd.prog 41 #[.pointer (some ⟨g, i * 3, none⟩)] wr fun e w' => e = .returned (.int .i64 ((Bs.getD i []).length : Int)) ∧ w' = wr) := tlen_any _ g (i * 3) wr hb.cells.1
      have HCN : Hid (Calls Tryd.prog 23 #[.pointer (some ⟨g, i * 3, none⟩)] wr fun e w' => e = .returned (.int .i64 (cnt (Bs.getD i []) : Int)) ∧ w' = wr) := tcount_any _ g (i * 3) wr hb.cells.2.1
      have hi0 : (0 : Int) ≤ (i : Int) := by omega
      have hiN : (i : Int) < (N : Int) := by omega
      have l1 := (cntA_le Bs i).1
      have l2 := (cntA_le Bs i).2
      have l3 := HFL.out
      have l4 := cnt_le (Bs.getD i [])
      by_cases hin : n - cntA Bs i < cnt (Bs.getD i [])
      · have hd : decide (((n - cntA Bs i : Nat) : Int) < (cnt (Bs.getD i []) : Int)) = true := by apply decide_eq_true; omega
        have HCH : Hid (Calls Tryd.prog 40 #[.pointer (some ⟨g, i * 3, none⟩), .int .i64 ((n - cntA Bs i : Nat) : Int)] wr fun e w' => e = .returned (.int .i64 (sel (Bs.getD i []) (n - cntA Bs i) : Int)) ∧ w' = wr) := choose_any (Bs.getD i []) (n - cntA Bs i) g (i * 3) A D wr hin h64 hb HT.out
        obtain ⟨s1, s2⟩ := sel_at Bs i n hib hlo (by omega)
        obtain ⟨r1, r2⟩ := HR1.out s2
        have s3 := sel_lt (Bs.getD i []) (n - cntA Bs i) hin
        have hw : wrap64 (((Bs.take i).flatten.length : Int) + (sel (Bs.getD i []) (n - cntA Bs i) : Int)) = R := by
          rw [r1, s1]; unfold wrap64; omega
        subst r2
        clear hin hlo hlt hik hb h64 HB HR1 HR2 r1 s1 s2 s3 l1 l2 l3 l4 HLN
        generalize ((Bs.take i).flatten.length : Int) = x at hw
        generalize (sel (Bs.getD i []) (n - cntA Bs i) : Int) = z at hw HCH
        generalize ((n - cntA Bs i : Nat) : Int) = y at hd HCH
        generalize (cnt (Bs.getD i []) : Int) = u at hd HCN
        go_wp2_with (first | (go_at_call 23; refine HCN.out.mono ?_; rintro e w' ⟨rfl, rfl⟩) | (go_at_call 40; refine HCH.out.mono ?_; rintro e w' ⟨rfl, rfl⟩))
        go_ret2
        exact ⟨by rw [← hw]; rfl, rfl⟩
      · have hd : decide (((n - cntA Bs i : Nat) : Int) < (cnt (Bs.getD i []) : Int)) = false := by apply decide_eq_false; omega
        have e1 : (Bs.take (i + 1)).flatten.length = (Bs.take i).flatten.length + (Bs.getD i []).length := by rw [take_snoc Bs i hib, List.length_append]
        have e2 := cntA_next Bs i hib
        have hwc : wrap64 (((n - cntA Bs i : Nat) : Int) - (cnt (Bs.getD i []) : Int)) = ((n - cntA Bs (i + 1) : Nat) : Int) := by
          have := HK.out
          rw [e2]; unfold wrap64; omega
        have hwp : wrap64 (((Bs.take i).flatten.length : Int) + ((Bs.getD i []).length : Int)) = ((Bs.take (i + 1)).flatten.length : Int) := by
          rw [e1]; unfold wrap64; omega
        have hi1 : (i : Int) + 1 ≤ 100000001 := by have := HN.out; omega
        have HX : Hid (i + 1 ≤ N ∧ cntA Bs (i + 1) ≤ n) := ⟨hlt, by rw [e2]; omega⟩
        clear hin hlo hlt hik hb h64 e1 e2 HB HR1 HR2 l1 l2 l3 l4
        generalize ((n - cntA Bs i : Nat) : Int) = x at hd hwc
        generalize ((Bs.getD i []).length : Int) = y at HLN hwp
        generalize ((Bs.take i).flatten.length : Int) = z at hwp
        generalize (cnt (Bs.getD i []) : Int) = u at hwc HCN hd
        go_wp2_with (first | (go_at_call 41; refine HLN.out.mono ?_; rintro e w' ⟨rfl, rfl⟩) | (go_at_call 23; refine HCN.out.mono ?_; rintro e w' ⟨rfl, rfl⟩))
        go_roundw
        case rel => exact ⟨i + 1, by rw [Int.natCast_add]; rfl, rfl, congrArg _ hwp, HX.out.1, HX.out.2, trivial⟩
        case measure => have := HX.out.1; simp [intOf]; omega
    · have hlt' : decide ((i : Int) < (N : Int)) = false := by simpa using hlt
      obtain rfl : i = N := by omega
      have hc : cntA Bs i = cnt Bs.flatten := by unfold cntA; rw [HN.out.1, List.take_length]
      obtain ⟨rfl, rfl⟩ := HR2.out (by rw [← hc]; exact hlo)
      clear hlt hik hlo HB HR1 HR2 hc
      generalize ((n - cntA Bs i : Nat) : Int) = x
      generalize ((Bs.take i).flatten.length : Int) = z
      go_wp2
      go_ret2
      exact ⟨rfl, rfl⟩
end Go.Proofs.YtlelbepfkkaojaaDoor
