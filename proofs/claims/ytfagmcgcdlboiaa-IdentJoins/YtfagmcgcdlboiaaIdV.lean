/- The walks of the reference's Seq and With. -/
import Derived.Test.YtfagmcgcdlboiaaIdE
namespace Go.Proofs.Ytfagmcgcdlboiaa
open Go.RowKit Go.Sort
set_option linter.unusedVariables false

theorem sq_step (v : List (Int × Int)) (q : Int) (i : Nat) (h : i < v.length) : sqL (v.drop i) q = if (v.getD i (0, 0)).1 = q then (v.getD i (0, 0)).2 else sqL (v.drop (i + 1)) q := by
  have e : v.drop i = v.getD i (0, 0) :: v.drop (i + 1) := by
    rw [List.drop_eq_getElem_cons h]; simp [h]
  conv => lhs; rw [e]
  rw [sqL]
theorem refSeq_any (v : List (Int × Int)) (q : Int) (a : Option Addr) (len cap : Nat) (w : World) (hrd : RdE w a len v) (hl : len ≤ 100000) :
    Calls Try.prog 29 #[.slice a len cap, .int .i64 q] w fun e w' => e = .returned (.int .i64 (sqL v q)) ∧ w' = w := by
  have HL : Hid (v.length = len) := hrd.1
  have HD : Hid (RdE w a len v) := hrd
  clear hrd
  go_enter Try.func29, Try.ntmps29
  go_wp2
  go_loopw [5] (fun x5 wr => ∃ i : Nat, x5 = .int .i64 i ∧ i ≤ len ∧ sqL v q = sqL (v.drop i) q ∧ wr = w) (fun x5 _ => len - (intOf x5).toNat)
  case atStart => exact ⟨0, rfl, by omega, rfl, rfl⟩
  case round =>
    obtain ⟨i, hx5, hil, heq, hwr⟩ := hrel
    subst hx5
    obtain rfl := hwr.symm
    clear hwr
    by_cases hlt : i < len
    · obtain ⟨b, off, hab, c0, c1⟩ := HD.out.at i hlt
      subst hab
      have hst := sq_step v q i (by rw [HL.out]; exact hlt)
      rw [hst] at heq
      generalize (v.getD i (0, 0)).1 = y1 at c0 heq
      generalize (v.getD i (0, 0)).2 = y2 at c1 heq
      clear hst
      by_cases hy : y1 = q
      · subst hy
        rw [if_pos rfl] at heq
        have HEQ : Hid (sqL v y1 = y2) := heq
        clear heq
        go_wp2
        go_ret
        exact ⟨by rw [HEQ.out]; rfl, rfl⟩
      · rw [if_neg hy] at heq
        have HEQ : Hid (sqL v q = sqL (v.drop (i + 1)) q) := heq
        have hyb : (y1 == q) = false := beq_false_of_ne hy
        clear heq hy
        go_wp2
        go_roundw
        case rel => exact ⟨i + 1, by go_num, by omega, HEQ.out, by first | rfl | trivial⟩
        case measure => simp [intOf]; omega
    · obtain rfl : i = len := by omega
      have HT : Hid (sqL v q = 0) := by
        show sqL v q = 0
        rw [heq, List.drop_of_length_le (by rw [HL.out]; omega)]
        rfl
      clear heq
      go_wp2
      go_ret
      exact ⟨by rw [HT.out]; rfl, rfl⟩
/-- What is still to come of With. -/
def aftL (a s : Int) (p : Bool) (L : List (Int × Int)) : List (Int × Int) := if p then L.filter (fun x => !(x.1 == a)) else putL a s L
theorem aft_step (a s : Int) (v : List (Int × Int)) (hA : AscE v) (i : Nat) (h : i < v.length) (p : Bool) : aftL a s p (v.drop i) =
    (if p then (if (v.getD i (0, 0)).1 = a then aftL a s true (v.drop (i + 1)) else v.getD i (0, 0) :: aftL a s true (v.drop (i + 1))) else
      if (v.getD i (0, 0)).1 < a then v.getD i (0, 0) :: aftL a s false (v.drop (i + 1)) else if (v.getD i (0, 0)).1 = a then (a, s) :: aftL a s true (v.drop (i + 1)) else (a, s) :: v.getD i (0, 0) :: aftL a s true (v.drop (i + 1))) := by
  have e : v.drop i = v.getD i (0, 0) :: v.drop (i + 1) := by
    rw [List.drop_eq_getElem_cons h]; simp [h]
  have hD : ∀ (u : List (Int × Int)) (i : Nat), AscE u → AscE (u.drop i) := by
    intro u
    induction u with
    | nil => intro i _; simp [AscE]
    | cons x r ih =>
      intro i hu
      cases i with
      | zero => exact hu
      | succ k => exact ih k hu.2
  have hAd := hD v i hA
  rw [e] at hAd
  conv => lhs; rw [e]
  generalize v.getD i (0, 0) = x at hAd ⊢
  generalize v.drop (i + 1) = r at hAd ⊢
  have hno : ¬ x.1 < a → r.filter (fun x => !(x.1 == a)) = r := by
    intro hx
    rw [List.filter_eq_self]
    intro y hy
    have := hAd.1 y hy
    simp; omega
  cases p
  · show putL a s (x :: r) = _
    rw [putL]
    simp only [Bool.false_eq_true, if_false]
    by_cases h1 : x.1 < a
    · rw [if_pos h1, if_pos h1]
      rfl
    · rw [if_neg h1, if_neg h1]
      have hr : aftL a s true r = r := by unfold aftL; rw [if_pos rfl]; exact hno h1
      rw [hr]
  · have e1 : aftL a s true (x :: r) = (x :: r).filter (fun x => !(x.1 == a)) := by unfold aftL; rw [if_pos rfl]
    have e2 : aftL a s true r = r.filter (fun x => !(x.1 == a)) := by unfold aftL; rw [if_pos rfl]
    rw [e1, e2]
    simp only [if_true]
    by_cases h1 : x.1 = a
    · rw [if_pos h1, List.filter_cons, if_neg (by simp [h1])]
    · rw [if_neg h1, List.filter_cons, if_pos (by simp [h1])]
theorem push_app {W : World} {B n : Nat} {u : Value} {l : List (Int × Int)} (h : W.ownsRow B 47 2 u n (flatE l)) (hB : B ≤ W.heap.size) (z : Int × Int) :
    (W.alloc (.cells #[.int .i64 z.1, .int .i64 z.2] 47)).ownsRow B 47 2 u n (flatE l) ∧ B ≤ (W.alloc (.cells #[.int .i64 z.1, .int .i64 z.2] 47)).heap.size ∧
    ∀ j v, (encE z)[j]? = some v → (W.alloc (.cells #[.int .i64 z.1, .int .i64 z.2] 47)).cell? ((⟨W.heap.size, 0, none⟩ : Addr).add j) = some v := by
  refine ⟨own_alloc h _, by simp; omega, fun j v hv => ?_⟩
  rw [add_lit]
  exact news_E (x := z) (heap_alloc_new W _) j v hv
theorem push_next {w W w' : World} {B : Nat} {u v' : Value} {l : List (Int × Int)} {z : Int × Int} {ob : Obj} (h : W.ownsRow B 47 2 u l.length (flatE l)) (hb : Below B w W) (hB : B ≤ W.heap.size) (o : w'.ownsRow B 47 2 v' (l.length + 1) (flatE l ++ encE z)) (g : (W.alloc ob).grownBy w' u.ownBlock) :
    w'.ownsRow B 47 2 v' (l ++ [z]).length (flatE (l ++ [z])) ∧ Below B w w' :=
  ⟨own_app o, (hb.alloc hB ob).grown g (by simp; omega) (fun k hk => (h.lt k hk).1)⟩
/-- With's row so far. -/
def WtW (w : World) (u : Value) (l : List (Int × Int)) (W : World) : Prop := W.ownsRow w.heap.size 47 2 u l.length (flatE l) ∧ Below w.heap.size w W ∧ w.heap.size ≤ W.heap.size
set_option maxHeartbeats 2000000 in
theorem refWith_any (v : List (Int × Int)) (q s : Int) (a : Option Addr) (len cap : Nat) (w : World) (hV : AscE v) (hrd : RdE w a len v) (hnone : a = none → cap = 0) (hl : len ≤ 1000) :
    Calls Try.prog 22 #[.slice a len cap, .int .i64 q, .int .i64 s] w (RowP (withL v q s) w) := by
  have hlen := hrd.1
  have HSQ : Hid (∀ W : World, W = w → Calls Try.prog 29 #[.slice a len cap, .int .i64 q] W fun e w' => e = .returned (.int .i64 (sqL v q)) ∧ w' = W) := fun W hW => by rw [hW]; exact refSeq_any v q a len cap w hrd (by omega)
  have hwl : withL v q s = if s ≤ sqL v q then v else putL q s v := rfl
  have HV : Hid (AscE v) := hV
  have HLV : Hid (v.length = len) := hlen
  have HD : Hid (RdE w a len v) := hrd
  have HSA : Hid (SrcAt w a len cap 2 (flatE v)) := srcE hrd hnone
  have HLL : Hid (len ≤ 1000) := hl
  obtain ⟨i0, hi, hz0, hz1, hz2⟩ := info_parts info_E
  have HI : Hid (Try.prog.info? 47 = some i0 ∧ i0.zero = some (.agg #[.int .i64 0, .int .i64 0]) ∧ i0.size = 2 ∧ i0.bytes = 16) := ⟨hi, hz0, hz1, hz2⟩
  clear hi hz0 hz1 hz2 hV hrd hnone hlen
  by_cases hs : s ≤ sqL v q
  · rw [hwl, if_pos hs]
    clear hwl
    have hown0 : (w.alloc (.cells #[] 47)).ownsRow w.heap.size 47 2 (.slice (some ⟨w.heap.size, 0, none⟩) 0 0) 0 [] := World.ownsRow_made w #[] 0 (Nat.le_refl _) (by simp [maxLen]) rfl
    have HO : Hid ((w.alloc (.cells #[] 47)).ownsRow w.heap.size 47 2 (.slice (some ⟨w.heap.size, 0, none⟩) 0 0) 0 []) := hown0
    have HS2 : Hid (SrcAt (w.alloc (.cells #[] 47)) a len cap 2 (flatE v)) := by
      obtain ⟨s1, s2, s3, s4⟩ := HSA.out
      refine ⟨s1, s2, fun x hx j u hu => ?_, s4⟩
      have := s3 x hx j u hu
      rw [World.cell?_alloc_lt _ _ _ (World.block_lt_of_cell? w _ this)]
      exact this
    have HFIN : Hid (∀ v' w', w'.ownsRow w.heap.size 47 2 v' (0 + len) ([] ++ flatE v) → (w.alloc (.cells #[] 47)).grownBy w' (some w.heap.size) → RowP v w (.returned v') w') := by
      intro v' w' h1 h2
      refine ⟨v', rfl, by rw [Nat.zero_add, List.nil_append] at h1; rw [HLV.out]; exact h1, ?_⟩
      exact ((Below.refl _ w).alloc (Nat.le_refl _) _).grown h2 (by simp) (fun k hk => by cases hk; exact Nat.le_refl _)
    generalize sqL v q = S at HSQ hs
    clear hown0 HSA
    go_enter Try.func22, Try.ntmps22
    go_wp2_with (first
      | (go_at_call 29; refine (HSQ.out _ rfl).mono ?_; rintro e w' ⟨rfl, hw'⟩; obtain rfl := hw'.symm; clear hw')
      | (at_builtin; refine wpList_append_src rfl _ _ 34 rfl w.heap.size 47 i0 _ 2 16 Try.underlying34 HI.out.1 HI.out.2.1 HI.out.2.2.1 HI.out.2.2.2 rfl (by decide) _ 0 [] rfl HO.out a len cap (flatE v) rfl HS2.out (by have := HLL.out; unfold maxLen; omega) (by have := HLL.out; omega) (by simp) (fun v' w' h1 h2 => ?_); have HFF : Hid (RowP v w (.returned v') w') := HFIN.out v' w' h1 h2; clear h1 h2))
    go_ret
    exact HFF.out
  · rw [hwl, if_neg hs]
    clear hwl HSA
    generalize sqL v q = S at HSQ hs
    go_enter Try.func22, Try.ntmps22
    go_wp2_with (first
      | (go_at_call 29; refine (HSQ.out _ rfl).mono ?_; rintro e w' ⟨rfl, hw'⟩; obtain rfl := hw'.symm; clear hw'))
    go_loopw [7, 8, 9] (fun x7 x8 x9 wr => ∃ (i : Nat) (l : List (Int × Int)) (p : Bool), x8 = .bool p ∧ x9 = .int .i64 i ∧ i ≤ len ∧ WtW w x7 l wr ∧ l ++ aftL q s p (v.drop i) = putL q s v) (fun _ _ x9 _ => len - (intOf x9).toNat)
    case atStart => exact ⟨0, [], false, rfl, rfl, by omega, ⟨World.ownsRow_nil _ _ _ _, Below.refl _ _, Nat.le_refl _⟩, rfl⟩
    case round =>
      obtain ⟨i, l, p, hx8, hx9, hil, hwt, heq⟩ := hrel
      subst hx8 hx9
      have HW : Hid (WtW w u7 l wr) := hwt
      have HLN : Hid (l.length ≤ 2000) := by
        show l.length ≤ 2000
        have h1 := congrArg List.length heq
        have h2 := put_len q s v
        rw [List.length_append] at h1
        rw [HLV.out] at h2
        have := HLL.out
        omega
      clear hwt
      by_cases hlt : i < len
      · obtain ⟨b, off, hab, c0, c1⟩ := (HD.out.later HW.out.2.1).at i hlt
        subst hab
        have hst := aft_step q s v HV.out i (by rw [HLV.out]; exact hlt) p
        rw [hst] at heq
        obtain ⟨y, hy⟩ : ∃ y, y = v.getD i (0, 0) := ⟨_, rfl⟩
        rw [← hy] at c0 c1 heq
        obtain ⟨y1, y2⟩ := y
        simp only [] at c0 c1 heq
        have HDW : Hid (∀ W, Below w.heap.size w W → W.cell? ⟨b, off + i * 2, none⟩ = some (.int .i64 y1) ∧ W.cell? ⟨b, off + i * 2 + 1, none⟩ = some (.int .i64 y2)) := by
          intro W hW
          obtain ⟨b', off', hab', d0, d1⟩ := (HD.out.later hW).at i hlt
          cases hab'
          rw [← hy] at d0 d1
          exact ⟨d0, d1⟩
        clear hst hy
        cases p
        · simp only [Bool.false_eq_true, if_false] at heq
          by_cases h1 : y1 < q
          · rw [if_pos h1] at heq
            have HEQ : Hid (l ++ (y1, y2) :: aftL q s false (v.drop (i + 1)) = putL q s v) := heq
            have h2 : (y1 == q) = false := beq_false_of_ne (by omega)
            have h3 : ¬ q ≤ y1 := by omega
            clear heq h1
            go_wp2_with (first | (at_builtin; refine wpList_append_own _ rfl _ _ 34 rfl w.heap.size 47 i0 _ 2 16 Try.underlying34 HI.out.1 HI.out.2.1 HI.out.2.2.1 HI.out.2.2.2 rfl (by decide) _ (l).length (flatE (l)) rfl (push_app HW.out.1 HW.out.2.2 (y1, y2)).1 ⟨wr.heap.size, 0, none⟩ 1 1 (encE (y1, y2)) rfl rfl (push_app HW.out.1 HW.out.2.2 (y1, y2)).2.2 (flatE_one' (y1, y2)) (by have := HLN.out; (try simp only [List.length_append, List.length_singleton]); unfold maxLen; omega) (by have := HLN.out; (try simp only [List.length_append, List.length_singleton]); omega) (push_app HW.out.1 HW.out.2.2 (y1, y2)).2.1 (fun v1 w1 o1 g1 _ => ?_); have HP1 : Hid (WtW w v1 (l ++ [(y1, y2)]) w1) := ⟨(push_next HW.out.1 HW.out.2.1 HW.out.2.2 o1 g1).1, (push_next HW.out.1 HW.out.2.1 HW.out.2.2 o1 g1).2, (push_next HW.out.1 HW.out.2.1 HW.out.2.2 o1 g1).2.size⟩; clear o1 g1))
            go_roundw
            case rel => exact ⟨i + 1, l ++ [(y1, y2)], false, rfl, by go_num, by omega, HP1.out, by rw [← HEQ.out]; simp⟩
            case measure => simp [intOf]; omega
          · rw [if_neg h1] at heq
            have h4 : q ≤ y1 := by omega
            by_cases h2 : y1 = q
            · rw [if_pos h2] at heq
              have HEQ : Hid (l ++ (q, s) :: aftL q s true (v.drop (i + 1)) = putL q s v) := heq
              clear heq h1
              subst h2
              go_wp2_with (first | (at_builtin; refine wpList_append_own _ rfl _ _ 34 rfl w.heap.size 47 i0 _ 2 16 Try.underlying34 HI.out.1 HI.out.2.1 HI.out.2.2.1 HI.out.2.2.2 rfl (by decide) _ (l).length (flatE (l)) rfl (push_app HW.out.1 HW.out.2.2 (y1, s)).1 ⟨wr.heap.size, 0, none⟩ 1 1 (encE (y1, s)) rfl rfl (push_app HW.out.1 HW.out.2.2 (y1, s)).2.2 (flatE_one' (y1, s)) (by have := HLN.out; (try simp only [List.length_append, List.length_singleton]); unfold maxLen; omega) (by have := HLN.out; (try simp only [List.length_append, List.length_singleton]); omega) (push_app HW.out.1 HW.out.2.2 (y1, s)).2.1 (fun v1 w1 o1 g1 _ => ?_); have HP1 : Hid (WtW w v1 (l ++ [(y1, s)]) w1) := ⟨(push_next HW.out.1 HW.out.2.1 HW.out.2.2 o1 g1).1, (push_next HW.out.1 HW.out.2.1 HW.out.2.2 o1 g1).2, (push_next HW.out.1 HW.out.2.1 HW.out.2.2 o1 g1).2.size⟩; clear o1 g1; obtain ⟨d0, d1⟩ := HDW.out w1 HP1.out.2.1))
              go_roundw
              case rel => exact ⟨i + 1, l ++ [(y1, s)], true, rfl, by go_num, by omega, HP1.out, by rw [← HEQ.out]; simp⟩
              case measure => simp [intOf]; omega
            · rw [if_neg h2] at heq
              have HEQ : Hid (l ++ (q, s) :: (y1, y2) :: aftL q s true (v.drop (i + 1)) = putL q s v) := heq
              have h3 : (y1 == q) = false := beq_false_of_ne h2
              clear heq h2 h1
              go_wp2_with (first
                | (at_builtin; refine wpList_append_own _ rfl _ _ 34 rfl w.heap.size 47 i0 _ 2 16 Try.underlying34 HI.out.1 HI.out.2.1 HI.out.2.2.1 HI.out.2.2.2 rfl (by decide) _ (l ++ [(q, s)]).length (flatE (l ++ [(q, s)])) rfl (push_app HP1.out.1 HP1.out.2.2 (y1, y2)).1 ⟨w1.heap.size, 0, none⟩ 1 1 (encE (y1, y2)) rfl rfl (push_app HP1.out.1 HP1.out.2.2 (y1, y2)).2.2 (flatE_one' (y1, y2)) (by have := HLN.out; (try simp only [List.length_append, List.length_singleton]); unfold maxLen; omega) (by have := HLN.out; (try simp only [List.length_append, List.length_singleton]); omega) (push_app HP1.out.1 HP1.out.2.2 (y1, y2)).2.1 (fun v2 w2 o2 g2 _ => ?_); have HP2 : Hid (WtW w v2 (l ++ [(q, s)] ++ [(y1, y2)]) w2) := ⟨(push_next HP1.out.1 HP1.out.2.1 HP1.out.2.2 o2 g2).1, (push_next HP1.out.1 HP1.out.2.1 HP1.out.2.2 o2 g2).2, (push_next HP1.out.1 HP1.out.2.1 HP1.out.2.2 o2 g2).2.size⟩; clear o2 g2)
                | (at_builtin; refine wpList_append_own _ rfl _ _ 34 rfl w.heap.size 47 i0 _ 2 16 Try.underlying34 HI.out.1 HI.out.2.1 HI.out.2.2.1 HI.out.2.2.2 rfl (by decide) _ (l).length (flatE (l)) rfl (push_app HW.out.1 HW.out.2.2 (q, s)).1 ⟨wr.heap.size, 0, none⟩ 1 1 (encE (q, s)) rfl rfl (push_app HW.out.1 HW.out.2.2 (q, s)).2.2 (flatE_one' (q, s)) (by have := HLN.out; (try simp only [List.length_append, List.length_singleton]); unfold maxLen; omega) (by have := HLN.out; (try simp only [List.length_append, List.length_singleton]); omega) (push_app HW.out.1 HW.out.2.2 (q, s)).2.1 (fun v1 w1 o1 g1 _ => ?_); have HP1 : Hid (WtW w v1 (l ++ [(q, s)]) w1) := ⟨(push_next HW.out.1 HW.out.2.1 HW.out.2.2 o1 g1).1, (push_next HW.out.1 HW.out.2.1 HW.out.2.2 o1 g1).2, (push_next HW.out.1 HW.out.2.1 HW.out.2.2 o1 g1).2.size⟩; clear o1 g1; obtain ⟨d0, d1⟩ := HDW.out w1 HP1.out.2.1))
              go_roundw
              case rel => exact ⟨i + 1, l ++ [(q, s)] ++ [(y1, y2)], true, rfl, by go_num, by omega, HP2.out, by rw [← HEQ.out]; simp⟩
              case measure => simp [intOf]; omega
        · simp only [if_true] at heq
          by_cases h2 : y1 = q
          · rw [if_pos h2] at heq
            have HEQ : Hid (l ++ aftL q s true (v.drop (i + 1)) = putL q s v) := heq
            clear heq
            subst h2
            go_wp2
            go_roundw
            case rel => exact ⟨i + 1, l, true, rfl, by go_num, by omega, HW.out, by exact HEQ.out⟩
            case measure => simp [intOf]; omega
          · rw [if_neg h2] at heq
            have HEQ : Hid (l ++ (y1, y2) :: aftL q s true (v.drop (i + 1)) = putL q s v) := heq
            have h3 : (y1 == q) = false := beq_false_of_ne h2
            clear heq h2
            go_wp2_with (first | (at_builtin; refine wpList_append_own _ rfl _ _ 34 rfl w.heap.size 47 i0 _ 2 16 Try.underlying34 HI.out.1 HI.out.2.1 HI.out.2.2.1 HI.out.2.2.2 rfl (by decide) _ (l).length (flatE (l)) rfl (push_app HW.out.1 HW.out.2.2 (y1, y2)).1 ⟨wr.heap.size, 0, none⟩ 1 1 (encE (y1, y2)) rfl rfl (push_app HW.out.1 HW.out.2.2 (y1, y2)).2.2 (flatE_one' (y1, y2)) (by have := HLN.out; (try simp only [List.length_append, List.length_singleton]); unfold maxLen; omega) (by have := HLN.out; (try simp only [List.length_append, List.length_singleton]); omega) (push_app HW.out.1 HW.out.2.2 (y1, y2)).2.1 (fun v1 w1 o1 g1 _ => ?_); have HP1 : Hid (WtW w v1 (l ++ [(y1, y2)]) w1) := ⟨(push_next HW.out.1 HW.out.2.1 HW.out.2.2 o1 g1).1, (push_next HW.out.1 HW.out.2.1 HW.out.2.2 o1 g1).2, (push_next HW.out.1 HW.out.2.1 HW.out.2.2 o1 g1).2.size⟩; clear o1 g1))
            go_roundw
            case rel => exact ⟨i + 1, l ++ [(y1, y2)], true, rfl, by go_num, by omega, HP1.out, by rw [← HEQ.out]; simp⟩
            case measure => simp [intOf]; omega
      · obtain rfl : i = len := by omega
        rw [List.drop_of_length_le (by rw [HLV.out]; omega)] at heq
        cases p
        · have HEQ : Hid (l ++ [(q, s)] = putL q s v) := heq
          clear heq
          go_wp2_with (first | (at_builtin; refine wpList_append_own _ rfl _ _ 34 rfl w.heap.size 47 i0 _ 2 16 Try.underlying34 HI.out.1 HI.out.2.1 HI.out.2.2.1 HI.out.2.2.2 rfl (by decide) _ (l).length (flatE (l)) rfl (push_app HW.out.1 HW.out.2.2 (q, s)).1 ⟨wr.heap.size, 0, none⟩ 1 1 (encE (q, s)) rfl rfl (push_app HW.out.1 HW.out.2.2 (q, s)).2.2 (flatE_one' (q, s)) (by have := HLN.out; (try simp only [List.length_append, List.length_singleton]); unfold maxLen; omega) (by have := HLN.out; (try simp only [List.length_append, List.length_singleton]); omega) (push_app HW.out.1 HW.out.2.2 (q, s)).2.1 (fun v1 w1 o1 g1 _ => ?_); have HP1 : Hid (WtW w v1 (l ++ [(q, s)]) w1) := ⟨(push_next HW.out.1 HW.out.2.1 HW.out.2.2 o1 g1).1, (push_next HW.out.1 HW.out.2.1 HW.out.2.2 o1 g1).2, (push_next HW.out.1 HW.out.2.1 HW.out.2.2 o1 g1).2.size⟩; clear o1 g1))
          go_ret
          exact ⟨v1, rfl, by rw [← HEQ.out]; exact HP1.out.1, HP1.out.2.1⟩
        · have HEQ : Hid (l = putL q s v) := by
            show l = putL q s v
            rw [← heq]; simp [aftL]
          clear heq
          go_wp2
          go_ret
          exact ⟨u7, rfl, by rw [← HEQ.out]; exact HW.out.1, HW.out.2.1⟩
end Go.Proofs.Ytfagmcgcdlboiaa
