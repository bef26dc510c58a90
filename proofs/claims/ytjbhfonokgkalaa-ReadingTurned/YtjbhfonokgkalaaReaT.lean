/- The walk of Boundaries. -/
import Derived.Test.YtjbhfonokgkalaaReaQ
namespace Go.Proofs.Ytjbhfonokgkalaa
open Go.RowKit
set_option linter.unusedVariables false
set_option linter.unusedSimpArgs false

theorem boundL_len (l : List Rl) (xs : List Int) : (boundL l xs).length = xs.length + 1 := by simp [boundL]
theorem boundL_get (l : List Rl) (xs : List Int) (p : Nat) (hp : p ≤ xs.length) : (boundL l xs).getD p false = boundAt l xs p := by
  unfold boundL
  rw [List.getD_eq_getElem?_getD, List.getElem?_map, List.getElem?_range (by omega)]
  rfl
theorem firstI_map {α β : Type} (f : α → β) (q : β → Bool) : (l : List α) → firstI q (l.map f) = firstI (fun x => q (f x)) l
  | [] => rfl
  | x :: r => by simp only [List.map_cons, firstI, firstI_map f q r]
theorem firstI_congr {α : Type} (q q' : α → Bool) : (l : List α) → (∀ x ∈ l, q x = q' x) → firstI q l = firstI q' l
  | [], _ => rfl
  | x :: r, h => by simp only [firstI, h x (by simp), firstI_congr q q' r (fun y hy => h y (by simp [hy]))]
/-- What is told of a place, of which so far. -/
def BdAt (l : List Rl) (xs : List Int) (k : Nat) (gl : Nat) (w1 wr : World) : Prop :=
  ∃ ys : List Bool, wr.ownsRow w1.heap.size 4 1 (.slice (some ⟨gl, 0, none⟩) (xs.length + 1) (xs.length + 1)) (xs.length + 1) (ys.map Value.bool) ∧ ys = (boundL l xs).take k ++ (List.replicate (xs.length + 1) false).drop k ∧ Below w1.heap.size w1 wr
theorem bd_step {l : List Rl} {xs : List Int} {k gl : Nat} {w1 wr wA : World} (hk : k ≤ xs.length) (h : BdAt l xs k gl w1 wr) (hA : Below wr.heap.size wr wA) (b : Bool) (hb : b = boundAt l xs k) :
    wA.frozen? ⟨gl, k, none⟩ = false ∧ (∃ b0 : Bool, wA.cell? ⟨gl, k, none⟩ = some (.bool b0)) ∧ BdAt l xs (k + 1) gl w1 (wA.setCell ⟨gl, k, none⟩ (.bool b)) ∧ BdAt l xs (k + 1) gl w1 (wA.setCell ⟨gl, k, none⟩ (.bool b)).drew := by
  obtain ⟨ys, o1, hy, hbl⟩ := h
  have hyl : ys.length = xs.length + 1 := by rw [hy]; simp [boundL_len]; omega
  have o2 := own_later5 o1 hA
  obtain ⟨g', hg', hBg, cu, hcu, hcel⟩ := own_cells1 o2 (by omega)
  cases hg'
  have hn : BdAt l xs (k + 1) gl w1 (wA.setCell ⟨gl, k, none⟩ (.bool b)) := by
    refine ⟨ys.set k b, by rw [List.map_set]; exact own_set1 o2 k _, ?_, (hbl.trans (hA.mono hbl.size)).setCell (p := ⟨gl, k, none⟩) hBg _⟩
    rw [hy, hb, ← boundL_get l xs k hk]
    exact jB_set _ _ k (by simp [boundL_len]) (by simp; omega)
  refine ⟨Lib.frozen_of_heap hcu _, ⟨ys.getD k false, by rw [hcel k (by omega)]; simp [hyl, show k < xs.length + 1 by omega]⟩, hn, ?_⟩
  obtain ⟨zs, z1, z2, z3⟩ := hn
  exact ⟨zs, own_later5 z1 (Below.refl _ _).drew, z2, z3.drew⟩

set_option maxHeartbeats 16000000 in
theorem boundaries_any (d : Nat) (l : List Rl) (xs : List Int) (al a : Option Addr) (n c len cap : Nat) (w : World) (hrow : RowR w d al n l) (hn : n ≤ 100000) (hd : d ≤ 131073) (hrd : Rd .i64 w a len xs) (hcap : len ≤ cap) (hnone : a = none → cap = 0) (hl : len ≤ 1000000) :
    Calls Try.prog 11 #[.slice al n c, .slice a len cap] w (RowPost (boundL l xs) w) := by
  have hlen := hrd.1
  have hll := hrow.1
  obtain ⟨i0, hi, hz0, hz1, hz2⟩ := info_parts info_b
  obtain ⟨j0, ji, jz0, jz1, jz2⟩ := info_parts info_bb
  have HJ : Hid (Try.prog.info? 27 = some j0 ∧ j0.zero = some (.slice none 0 0) ∧ j0.size = 1 ∧ j0.bytes = 24) := ⟨ji, jz0, jz1, jz2⟩
  obtain ⟨CZ, hCZ⟩ : ∃ CZ, CZ = madeCells (Value.slice none 0 0).cells (n * 1) := ⟨_, rfl⟩
  have hmk : ∀ W : World, (Instr.makeSlice 57 (.int .i64 0) (.int .i64 (n : Int))).run Try.prog W = .ok (.slice (some ⟨W.heap.size, 0, none⟩) 0 n) (W.alloc (.cells CZ 27)) := by
    intro W
    have := run_make (P := Try.prog) W 57 27 j0 _ Try.underlying57 ji jz0 .i64 .i64 0 (n : Int) (by omega) (by omega) (by rw [jz2]; omega) (by omega)
    rw [show ((n : Int)).toNat = n by omega, jz1, ← hCZ] at this
    exact this
  obtain ⟨CB, hCB⟩ : ∃ CB, CB = madeCells (Value.bool false).cells ((len + 1) * 1) := ⟨_, rfl⟩
  have hmb : ∀ W : World, (Instr.makeSlice 27 (.int .i64 ((len : Int) + 1)) (.int .i64 ((len : Int) + 1))).run Try.prog W = .ok (.slice (some ⟨W.heap.size, 0, none⟩) (len + 1) (len + 1)) (W.alloc (.cells CB 4)) := by
    intro W
    have := run_make (P := Try.prog) W 27 4 i0 _ Try.underlying27 hi hz0 .i64 .i64 ((len : Int) + 1) ((len : Int) + 1) (by omega) (by omega) (by rw [hz2]; omega) (by omega)
    rw [show ((len : Int) + 1).toNat = len + 1 by omega, hz1, ← hCB] at this
    exact this
  have HCB : Hid (CB.toList = List.replicate (len + 1) (.bool false)) := by show CB.toList = _; rw [hCB, Nat.mul_one]; exact made_one _ _
  have hw1 : IntKind.i64.wrap ((len : Int) + 1) = (len : Int) + 1 := by rw [IntKind.wrap_i64]; omega
  have HC : Hid (∀ W r q, Below w.heap.size w W → RlAt W d r q → Calls Try.prog 37 #[.agg (r.vals q), .slice a len cap] W fun e w2 => ∃ g2 c2, e = .returned (.slice (some ⟨g2, 0, none⟩) (len + 1) c2) ∧ w2.ownsRow W.heap.size 4 1 (.slice (some ⟨g2, 0, none⟩) (len + 1) c2) (len + 1) ((ruleL r xs).map Value.bool) ∧ Below W.heap.size W w2) := by
    intro W r q hW hr
    refine (ruleFits_any d r q xs a len cap W hr hd (hrd.later hW) hnone hl).mono ?_
    rintro e w2 ⟨v, rfl, ho, hb⟩
    rw [ruleL_len, hlen] at ho
    obtain ⟨g, cc, rfl, _, _⟩ := ho.form (by omega)
    exact ⟨g, cc, rfl, ho, hb⟩
  have HST : Hid (FtAt l xs 0 (.slice (some ⟨w.heap.size, 0, none⟩) 0 n) w (w.alloc (.cells CZ 27))) :=
    ⟨[], World.ownsRow_made w CZ n (Nat.le_refl _) (by unfold maxLen; omega) (by rw [hCZ, size_madeCells]), (Below.refl _ w).alloc (Nat.le_refl _) _, fun i hi => by simp at hi⟩
  have HD : Hid (RowR w d al n l) := hrow
  have HL : Hid (l.length = n ∧ xs.length = len ∧ n ≤ 100000 ∧ len ≤ 1000000) := ⟨hll, hlen, hn, hl⟩
  have hni : (n : Int) ≤ 100000 := by omega
  have hli : (len : Int) ≤ 1000000 := by omega
  clear hi hz0 hz1 hz2 ji jz0 jz1 jz2 hCZ hCB hrow hn hd hrd hcap hnone hl hlen hll
  go_enter Try.func11, Try.ntmps11
  go_wp2
  go_loopw [16, 5] (fun x16 x5 wr => ∃ k : Nat, k ≤ n ∧ x16 = .int .i64 k ∧ FtAt l xs k x5 w wr) (fun x16 _ _ => n - (intOf x16).toNat)
  case atStart => exact ⟨0, by omega, rfl, HST.out⟩
  case round =>
    obtain ⟨k, hk, hx16, vs, o1, hbl, hall⟩ := hrel
    subst hx16
    clear HST hmk
    obtain ⟨av, cv, rfl⟩ := own_sl1 o1
    by_cases hlt : k < n
    · have hkl : k < l.length := by rw [HL.out.1]; exact hlt
      obtain ⟨b, off, q, rfl, hr, t0, t1, t2, t3, t4, t5, t6, t7⟩ := (HD.out.later hbl).cells k hkl
      obtain ⟨P, hP⟩ : ∃ P, P = wr.alloc (.cells (l[k].vals q) 35) := ⟨_, rfl⟩
      obtain ⟨T, hT⟩ : ∃ T, T = wr.heap.size := ⟨_, rfl⟩
      have HBP : Hid (Below wr.heap.size wr P) := by rw [hP]; exact (Below.refl _ wr).alloc (Nat.le_refl _) _
      have hpx : P.heap[T]? = some (.cells (l[k].vals q) 35) := by rw [hP, hT]; exact heap_alloc_new wr _
      have HCC : Hid (Calls Try.prog 37 #[.agg (l[k].vals q), .slice a len cap] P fun e w2 => ∃ g2 c2, e = .returned (.slice (some ⟨g2, 0, none⟩) (len + 1) c2) ∧ w2.ownsRow w.heap.size 27 1 (.slice av k cv) k vs ∧ w.heap.size ≤ w2.heap.size ∧ Hid (∀ (g cap : Nat) (w1 : World), w1.ownsRow w.heap.size 27 1 (.slice (some ⟨g, 0, none⟩) (k + 1) cap) (k + 1) (vs ++ [.slice (some ⟨g2, 0, none⟩) (len + 1) c2]) → (w2.alloc (.cells #[.slice (some ⟨g2, 0, none⟩) (len + 1) c2] 27)).grownBy w1 (Value.slice av k cv).ownBlock → FtAt l xs (k + 1) (.slice (some ⟨g, 0, none⟩) (k + 1) cap) w w1)) := by
        have hs := hbl.size
        refine (HC.out P l[k] q (hbl.trans (HBP.out.mono hs)) (hr.later HBP.out)).mono ?_
        rintro e w2 ⟨g2, c2, rfl, ho2, hb2⟩
        have hx := HL.out.2.1
        have := ft_step (w2 := w2) hkl o1 hbl hall HBP.out g2 c2 (by rw [hx]; exact ho2) hb2
        rw [hx] at this
        refine ⟨g2, c2, rfl, this.1, ?_, this.2⟩
        have h5 := HBP.out.size
        have h6 := hb2.size
        omega
      obtain ⟨la, lc, lp, lpc, ra, rc, rp, rpc⟩ := q
      obtain ⟨r, hrr⟩ : ∃ r, r = l[k] := ⟨_, rfl⟩
      rw [← hrr] at t0 t1 t2 t3 t4 t5 t6 t7 HCC hP hpx
      obtain ⟨lo, hlo⟩ : ∃ lo, lo = r.left.op := ⟨_, rfl⟩
      obtain ⟨ln, hln⟩ : ∃ ln, ln = r.left.cl.length := ⟨_, rfl⟩
      obtain ⟨lk, hlk⟩ : ∃ lk, lk = (toL r.left.kids).length := ⟨_, rfl⟩
      obtain ⟨ro, hro⟩ : ∃ ro, ro = r.right.op := ⟨_, rfl⟩
      obtain ⟨rn, hrn⟩ : ∃ rn, rn = r.right.cl.length := ⟨_, rfl⟩
      obtain ⟨rk, hrk⟩ : ∃ rk, rk = (toL r.right.kids).length := ⟨_, rfl⟩
      obtain ⟨st, hst⟩ : ∃ st, st = r.start := ⟨_, rfl⟩
      obtain ⟨br, hbr⟩ : ∃ br, br = r.brk := ⟨_, rfl⟩
      simp only [Rl.vals, ← hlo, ← hln, ← hlk, ← hro, ← hrn, ← hrk, ← hst, ← hbr] at HCC t0 t1 t2 t3 t4 t5 t6 t7 hP hpx
      obtain ⟨s0, s1, s2, s3, s4, s5, s6, s7⟩ := box8 hpx
      clear hpx hr hrr hlo hln hlk hro hrn hrk hst hbr o1 hbl hall
      go_upto_region 5 with fail
      rw [← hT, ← hP]
      clear hT hP t0 t1 t2 t3 t4 t5 t6 t7
      go_wp2_with (fail)
      refine HCC.out.mono ?_
      rintro e w2 ⟨g2, c2, rfl, o2, hsz, HNX⟩
      have HO2 : Hid (w2.ownsRow w.heap.size 27 1 (.slice av k cv) k vs) := o2
      have HSZ : Hid (w.heap.size ≤ w2.heap.size) := hsz
      clear o2 hsz HCC s0 s1 s2 s3 s4 s5 s6 s7
      go_wp2_with (at_builtin; refine wpList_append_lies _ rfl _ _ 57 rfl w.heap.size 27 j0 _ 1 24 Try.underlying57 HJ.out.1 HJ.out.2.1 HJ.out.2.2.1 HJ.out.2.2.2 rfl (by decide) (.slice av k cv) k vs rfl (own_alloc HO2.out _) ⟨w2.heap.size, 0, none⟩ 1 1 [.slice (some ⟨g2, 0, none⟩) (len + 1) c2] rfl rfl (World.news_of_block (cs := #[.slice (some ⟨g2, 0, none⟩) (len + 1) c2]) (t := 27) (fr := (0, 0)) (heap_alloc_new w2 _)) (by simp [Value.oneCell']) (by omega) (by unfold maxLen; omega) (by omega) (by have := HSZ.out; simp; omega) _ rfl (fun g cap w1 h1 h2 h3 h4 => ?_); have HAT : Hid (FtAt l xs (k + 1) (.slice (some ⟨g, 0, none⟩) (k + 1) cap) w w1) := HNX.out g cap w1 h1 h2; clear h1 h2 h3 h4)
      go_roundw
      case rel => exact ⟨k + 1, by omega, by go_num, HAT.out⟩
      case measure => simp [intOf]; omega
    · obtain rfl : k = n := by omega
      obtain ⟨w1, hw1e⟩ : ∃ w1, w1 = wr := ⟨_, rfl⟩
      subst hw1e
      have HFT : Hid (∃ a c, Value.slice av k cv = .slice a k c ∧ RowB w1 a k (len + 1) (l.map fun r => ruleL r xs)) := by
        have h1 := HL.out
        have := ft_rows (l := l) (xs := xs) (v := .slice av k cv) (w := w) (wr := w1) ⟨vs, by rw [h1.1]; exact o1, hbl, hall⟩
        rw [h1.1, h1.2.1] at this
        exact this
      have HBW : Hid (Below w.heap.size w w1) := hbl
      obtain ⟨av', cv', he, hrowb⟩ := HFT.out
      cases he
      have HRB : Hid (RowB w1 av k (len + 1) (l.map fun r => ruleL r xs)) := hrowb
      obtain ⟨gl, hgl⟩ : ∃ gl, gl = w1.heap.size := ⟨_, rfl⟩
      have HB2 : Hid (BdAt l xs 0 gl w1 (w1.alloc (.cells CB 4))) := by
        have hx := HL.out.2.1
        refine ⟨List.replicate (len + 1) false, ?_, by rw [hx]; simp, (Below.refl _ w1).alloc (Nat.le_refl _) _⟩
        rw [hx]
        refine ⟨by simp, .inr ⟨gl, len + 1, CB, rfl, by omega, by rw [hgl]; exact heap_alloc_new w1 _, Nat.le_refl _, by unfold maxLen; omega, ?_, ?_⟩⟩
        · rw [← Array.length_toList, HCB.out]; simp
        · rw [HCB.out, List.take_of_length_le (by simp)]; simp
      clear o1 hbl hall hrowb HFT HC HJ
      obtain ⟨N, hN⟩ : ∃ N, N = k := ⟨_, rfl⟩
      rw [← hN]
      rw [← hN] at HRB HD HL hni
      clear hN hk hlt
      go_upto_region 8 with fail
      rw [← hgl]
      clear hgl hmb
      go_wp2
      go_loopw [33] (fun x33 wr => ∃ k : Nat, k ≤ len + 1 ∧ x33 = .int .i64 k ∧ BdAt l xs k gl w1 wr) (fun x33 _ => len + 1 - (intOf x33).toNat)
      case atStart => exact ⟨0, by omega, rfl, HB2.out⟩
      case round =>
        obtain ⟨k, hk, hx33, hat⟩ := hrel
        subst hx33
        clear HB2
        have HAT : Hid (BdAt l xs k gl w1 wr) := hat
        have hx := HL.out
        by_cases hlt : k < len + 1
        · obtain ⟨wA, hwA⟩ : ∃ wA, wA = wr.alloc (.cells #[.int .i64 k] 3) := ⟨_, rfl⟩
          obtain ⟨pb, hpb⟩ : ∃ pb, pb = wr.heap.size := ⟨_, rfl⟩
          have HBA : Hid (Below wr.heap.size wr wA) := by rw [hwA]; exact (Below.refl _ wr).alloc (Nat.le_refl _) _
          have cp : wA.cell? ⟨pb, 0, none⟩ = some (.int .i64 k) := by rw [hwA, hpb]; exact cell_of_row _ _ 0 _ _ _ (heap_alloc_new wr _)
          have hglp : gl ≠ pb := by
            obtain ⟨ys, z1, _, _⟩ := hat
            have := (z1.lt gl rfl).2
            omega
          have hpgl : pb ≠ gl := fun e => hglp e.symm
          have HBDS : Hid (∀ b, b = boundAt l xs k → wA.frozen? ⟨gl, k, none⟩ = false ∧ (∃ b0 : Bool, wA.cell? ⟨gl, k, none⟩ = some (.bool b0)) ∧ BdAt l xs (k + 1) gl w1 (wA.setCell ⟨gl, k, none⟩ (.bool b)) ∧ BdAt l xs (k + 1) gl w1 (wA.setCell ⟨gl, k, none⟩ (.bool b)).drew) := fun b hb => bd_step (by omega) hat HBA.out b hb
          have HBWA : Hid (Below w1.heap.size w1 wA) := by
            obtain ⟨_, _, _, z3⟩ := hat
            exact z3.trans (HBA.out.mono z3.size)
          have hk0 : (0 : Int) ≤ (k : Int) := by omega
          have hk1 : (k : Int) < (len : Int) + 1 := by omega
          obtain ⟨lp, hlp⟩ : ∃ lp, lp = decide ((0 : Int) < (len : Int)) := ⟨_, rfl⟩
          by_cases hend : k = 0 ∨ k = len
          · have hbv : lp = boundAt l xs k := by
              unfold boundAt
              rw [if_pos (by rw [hx.2.1]; exact hend), hlp, hx.2.1, Bool.eq_iff_iff]
              simp
            obtain ⟨f1, ⟨b0, f2⟩, f3, _⟩ := HBDS.out lp hbv
            have HN1 : Hid (BdAt l xs (k + 1) gl w1 (wA.setCell ⟨gl, k, none⟩ (.bool lp))) := f3
            have hlp2 : decide ((len : Int) > 0) = lp := by rw [hlp]
            clear hat f3 hbv HBDS hx HD HRB
            by_cases h0 : k = 0
            · have hk2 : ((k : Int) == 0) = true := by rw [beq_iff_eq]; omega
              clear h0 hend
              go_upto_region 11 with fail
              rw [← hpb, ← hwA]
              clear hpb hwA
              go_wp2
              go_roundw
              case rel => exact ⟨k + 1, by omega, by go_num, by simpa [hlp] using HN1.out⟩
              case measure => first | (simp [intOf]; omega) | simp [intOf]
            · have hkl : k = len := by omega
              have hk2 : ((k : Int) == 0) = false := by rw [beq_eq_false_iff_ne]; omega
              subst hkl
              go_upto_region 11 with fail
              rw [← hpb, ← hwA]
              clear hpb hwA
              go_wp2
              go_roundw
              case rel => exact ⟨k + 1, by omega, by go_num, by simpa [hlp] using HN1.out⟩
              case measure => first | (simp [intOf]; done) | (simp [intOf]; omega)
          · have hk2 : ((k : Int) == 0) = false := by rw [beq_eq_false_iff_ne]; omega
            have hk3 : ((k : Int) == (len : Int)) = false := by rw [beq_eq_false_iff_ne]; omega
            have hk4 : ¬ (k : Int) = 0 := by omega
            have hk5 : ¬ (k : Int) = (len : Int) := by omega
            have hba : boundAt l xs k = saysB (fun r => r.fit xs k) l := by
              unfold boundAt
              rw [if_neg (by rw [hx.2.1]; exact hend)]
            have hfe : firstI (fun r => r.getD k false) (l.map fun r => ruleL r xs) = firstI (fun r => r.fit xs k) l := by
              rw [firstI_map]
              exact firstI_congr _ _ l (fun r _ => ruleL_get r xs k (by omega))
            have HIX : Hid (Calls Try.prog 38 #[.slice av N cv, .func (.func 39) #[] #[.pointer (some ⟨pb, 0, none⟩)]] wA fun e w' => e = .returned (.int .i64 (firstI (fun r => r.fit xs k) l)) ∧ w' = wA) := by
              rw [← hfe]
              exact indexB_any _ av N (len + 1) cv k pb wA (HRB.out.later HBWA.out) (by omega) (by omega) hlt cp
            obtain ⟨F, hF⟩ : ∃ F, F = firstI (fun r => r.fit xs k) l := ⟨_, rfl⟩
            rw [← hF] at HIX
            rcases firstI_cases (fun r => r.fit xs k) l with ⟨h1, h2⟩ | ⟨j, hj, h1, _⟩
            · have hFm : F = -1 := hF.trans h1
              subst hFm
              obtain ⟨f1, ⟨b0, f2⟩, f3, f4⟩ := HBDS.out true (by rw [hba]; exact ((says_first _ l).1 h1).symm)
              have HN1 : Hid (BdAt l xs (k + 1) gl w1 (wA.setCell ⟨gl, k, none⟩ (.bool true))) := f3
              have HN2 : Hid (BdAt l xs (k + 1) gl w1 (wA.setCell ⟨gl, k, none⟩ (.bool true)).drew) := f4
              clear hat f3 f4 HBDS hx HD HRB hba hfe hF h1 h2 hlp
              go_upto_region 11 with fail
              rw [← hpb, ← hwA]
              clear hpb hwA
              go_wp2_with fail
              refine HIX.out.mono ?_
              rintro e w3 ⟨rfl, hw3⟩
              obtain rfl : wA = w3 := hw3.symm
              clear HIX
              go_wp2_with fail
              refine wp_region_any (by kernel_rfl) ?_
              try (change wpAny _ _ _ _ _ _ _ (World.drew _))
              refine wpAny_take (i := 0) (v := ?_) rfl (by kernel_rfl) (by kernel_rfl) (by kernel_rfl) (fun _ _ _ h => h) (Or.inl ⟨by rfl, ?_⟩) ?_
              rotate_left
              · intro w; go_simp; try with_reducible rfl
              go_simp
              refine wpAny_take (i := 2) (v := ?_) rfl (by kernel_rfl) (by kernel_rfl) (by kernel_rfl) (fun _ _ _ h => h) (Or.inl ⟨by rfl, ?_⟩) ?_
              rotate_left
              · intro w; go_simp; try with_reducible rfl
              go_simp
              refine wpAny_take (i := 3) (v := ?_) rfl (by kernel_rfl) (by kernel_rfl) (by kernel_rfl) (fun _ _ _ h => h) (Or.inl ⟨by rfl, ?_⟩) ?_
              rotate_left
              · intro w; go_simp; try with_reducible rfl
              go_simp
              refine wpAny_take (i := 4) (v := ?_) rfl (by kernel_rfl) (by kernel_rfl) (by kernel_rfl) (fun _ _ _ h => h) (Or.inl ⟨by rfl, ?_⟩) ?_
              rotate_left
              · intro w; go_simp; try with_reducible rfl
              go_simp
              refine wpAny_take (i := 5) (v := undef) rfl (by kernel_rfl) (by kernel_rfl) (by kernel_rfl) (fun _ _ _ h => h) (Or.inr ⟨by rfl, rfl⟩) ?_
              go_simp
              refine wpAny_take (i := 6) (v := undef) rfl (by kernel_rfl) (by kernel_rfl) (by kernel_rfl) (fun _ _ _ h => h) (Or.inr ⟨by rfl, rfl⟩) ?_
              go_simp
              refine wpAny_take (i := 7) (v := undef) rfl (by kernel_rfl) (by kernel_rfl) (by kernel_rfl) (fun _ _ _ h => h) (Or.inr ⟨by rfl, rfl⟩) ?_
              go_simp
              refine wpAny_take (i := 8) (v := undef) rfl (by kernel_rfl) (by kernel_rfl) (by kernel_rfl) (fun _ _ _ h => h) (Or.inr ⟨by rfl, rfl⟩) ?_
              go_simp
              refine wpAny_take (i := 9) (v := undef) rfl (by kernel_rfl) (by kernel_rfl) (by kernel_rfl) (fun _ _ _ h => h) (Or.inr ⟨by rfl, rfl⟩) ?_
              go_simp
              refine wpAny_take (i := 10) (v := ?_) rfl (by kernel_rfl) (by kernel_rfl) (by kernel_rfl) (fun _ _ _ h => h) (Or.inl ⟨by rfl, ?_⟩) ?_
              rotate_left
              · intro w; go_simp; try with_reducible rfl
              go_simp
              refine wpAny_ready (rs := [1]) (by kernel_rfl) (by simp) ?_
              refine AllReady.cons rfl (fun K hK => ?_) ?_
              · go_simp
                refine hK _ _ ?_
                clear hK K
                go_simp
                refine wpAny_take (i := 11) (v := ?_) rfl (by kernel_rfl) (by kernel_rfl) (by kernel_rfl) (fun _ _ _ h => h) (Or.inl ⟨by rfl, ?_⟩) ?_
                rotate_left
                · intro w; go_simp; try with_reducible rfl
                go_simp
                refine wpAny_ready (rs := [12]) (by kernel_rfl) (by simp) ?_
                refine AllReady.cons rfl (fun K hK => ?_) ?_
                · go_simp
                  refine hK _ _ ?_
                  clear hK K
                  go_simp
                  refine wpAny_done (by kernel_rfl) ?_ _
                  go_wp2
                  go_roundw
                  case rel => exact ⟨k + 1, by omega, by go_num, by first | exact HN1.out | exact HN2.out⟩
                  case measure => simp [intOf]; omega
                exact AllReady.nil
              exact AllReady.nil
            · have hFj : F = (j : Int) := hF.trans h1
              subst hFj
              have hrw := HD.out.later HBW.out
              obtain ⟨b, off, q, rfl, _, _, _, _, _, _, _, t6, _⟩ := (hrw.later HBWA.out).cells j hj
              obtain ⟨bv, hbv⟩ : ∃ bv, bv = l[j].brk := ⟨_, rfl⟩
              rw [← hbv] at t6
              obtain ⟨f1, ⟨b0, f2⟩, f3, f4⟩ := HBDS.out bv (by rw [hba, hbv]; exact ((says_first _ l).2 j hj h1).symm)
              have HN1 : Hid (BdAt l xs (k + 1) gl w1 (wA.setCell ⟨gl, k, none⟩ (.bool bv))) := f3
              have HN2 : Hid (BdAt l xs (k + 1) gl w1 (wA.setCell ⟨gl, k, none⟩ (.bool bv)).drew) := f4
              have hj0 : (0 : Int) ≤ (j : Int) := by omega
              have hj1 : (j : Int) < (N : Int) := by omega
              have hj2 : ¬ (j : Int) < 0 := by omega
              clear hat f3 f4 HBDS hx HD HRB hba hfe hF h1 hlp hrw hbv
              go_upto_region 11 with fail
              rw [← hpb, ← hwA]
              clear hpb hwA
              go_wp2_with fail
              refine HIX.out.mono ?_
              rintro e w3 ⟨rfl, hw3⟩
              obtain rfl : wA = w3 := hw3.symm
              clear HIX
              go_wp2_with fail
              refine wp_region_any (by kernel_rfl) ?_
              try (change wpAny _ _ _ _ _ _ _ (World.drew _))
              refine wpAny_take (i := 0) (v := ?_) rfl (by kernel_rfl) (by kernel_rfl) (by kernel_rfl) (fun _ _ _ h => h) (Or.inl ⟨by rfl, ?_⟩) ?_
              rotate_left
              · intro w; go_simp; try with_reducible rfl
              go_simp
              refine wpAny_take (i := 2) (v := ?_) rfl (by kernel_rfl) (by kernel_rfl) (by kernel_rfl) (fun _ _ _ h => h) (Or.inl ⟨by rfl, ?_⟩) ?_
              rotate_left
              · intro w; go_simp; try with_reducible rfl
              go_simp
              refine wpAny_take (i := 3) (v := ?_) rfl (by kernel_rfl) (by kernel_rfl) (by kernel_rfl) (fun _ _ _ h => h) (Or.inl ⟨by rfl, ?_⟩) ?_
              rotate_left
              · intro w; go_simp; try with_reducible rfl
              go_simp
              refine wpAny_take (i := 4) (v := ?_) rfl (by kernel_rfl) (by kernel_rfl) (by kernel_rfl) (fun _ _ _ h => h) (Or.inl ⟨by rfl, ?_⟩) ?_
              rotate_left
              · intro w; go_simp; try with_reducible rfl
              go_simp
              refine wpAny_take (i := 5) (v := ?_) rfl (by kernel_rfl) (by kernel_rfl) (by kernel_rfl) (fun _ _ _ h => h) (Or.inl ⟨by rfl, ?_⟩) ?_
              rotate_left
              · intro w; go_simp; try with_reducible rfl
              go_simp
              refine wpAny_take (i := 6) (v := ?_) rfl (by kernel_rfl) (by kernel_rfl) (by kernel_rfl) (fun _ _ _ h => h) (Or.inl ⟨by rfl, ?_⟩) ?_
              rotate_left
              · intro w; go_simp; try with_reducible rfl
              go_simp
              refine wpAny_take (i := 7) (v := ?_) rfl (by kernel_rfl) (by kernel_rfl) (by kernel_rfl) (fun _ _ _ h => h) (Or.inl ⟨by rfl, ?_⟩) ?_
              rotate_left
              · intro w; go_simp; try with_reducible rfl
              go_simp
              refine wpAny_take (i := 8) (v := ?_) rfl (by kernel_rfl) (by kernel_rfl) (by kernel_rfl) (fun _ _ _ h => h) (Or.inl ⟨by rfl, ?_⟩) ?_
              rotate_left
              · intro w; go_simp; try with_reducible rfl
              go_simp
              refine wpAny_ready (rs := [1, 9]) (by kernel_rfl) (by simp) ?_
              refine AllReady.cons rfl (fun K hK => ?_) ?_
              · go_simp
                refine hK _ _ ?_
                clear hK K
                go_simp
                refine wpAny_ready (rs := [9]) (by kernel_rfl) (by simp) ?_
                refine AllReady.cons rfl (fun K hK => ?_) ?_
                · go_simp
                  refine hK _ _ ?_
                  clear hK K
                  go_simp
                  refine wpAny_take (i := 10) (v := ?_) rfl (by kernel_rfl) (by kernel_rfl) (by kernel_rfl) (fun _ _ _ h => h) (Or.inl ⟨by rfl, ?_⟩) ?_
                  rotate_left
                  · intro w; go_simp; try with_reducible rfl
                  go_simp
                  refine wpAny_take (i := 11) (v := ?_) rfl (by kernel_rfl) (by kernel_rfl) (by kernel_rfl) (fun _ _ _ h => h) (Or.inl ⟨by rfl, ?_⟩) ?_
                  rotate_left
                  · intro w; go_simp; try with_reducible rfl
                  go_simp
                  refine wpAny_ready (rs := [12]) (by kernel_rfl) (by simp) ?_
                  refine AllReady.cons rfl (fun K hK => ?_) ?_
                  · go_simp
                    refine hK _ _ ?_
                    clear hK K
                    go_simp
                    refine wpAny_done (by kernel_rfl) ?_ _
                    go_wp2
                    go_roundw
                    case rel => exact ⟨k + 1, by omega, by go_num, by first | exact HN1.out | exact HN2.out⟩
                    case measure => simp [intOf]; omega
                  exact AllReady.nil
                exact AllReady.nil
              refine AllReady.cons rfl (fun K hK => ?_) ?_
              · go_simp
                refine hK _ _ ?_
                clear hK K
                go_simp
                refine wpAny_take (i := 10) (v := ?_) rfl (by kernel_rfl) (by kernel_rfl) (by kernel_rfl) (fun _ _ _ h => h) (Or.inl ⟨by rfl, ?_⟩) ?_
                rotate_left
                · intro w; go_simp; try with_reducible rfl
                go_simp
                refine wpAny_ready (rs := [1]) (by kernel_rfl) (by simp) ?_
                refine AllReady.cons rfl (fun K hK => ?_) ?_
                · go_simp
                  refine hK _ _ ?_
                  clear hK K
                  go_simp
                  refine wpAny_take (i := 11) (v := ?_) rfl (by kernel_rfl) (by kernel_rfl) (by kernel_rfl) (fun _ _ _ h => h) (Or.inl ⟨by rfl, ?_⟩) ?_
                  rotate_left
                  · intro w; go_simp; try with_reducible rfl
                  go_simp
                  refine wpAny_ready (rs := [12]) (by kernel_rfl) (by simp) ?_
                  refine AllReady.cons rfl (fun K hK => ?_) ?_
                  · go_simp
                    refine hK _ _ ?_
                    clear hK K
                    go_simp
                    refine wpAny_done (by kernel_rfl) ?_ _
                    go_wp2
                    go_roundw
                    case rel => exact ⟨k + 1, by omega, by go_num, by first | exact HN1.out | exact HN2.out⟩
                    case measure => simp [intOf]; omega
                  exact AllReady.nil
                exact AllReady.nil
              exact AllReady.nil
        · obtain rfl : k = len + 1 := by omega
          have HFIN : Hid (RowPost (boundL l xs) w (.returned (.slice (some ⟨gl, 0, none⟩) (len + 1) (len + 1))) wr) := by
            obtain ⟨ys, z1, z2, z3⟩ := hat
            rw [List.take_of_length_le (by rw [boundL_len]; omega), List.drop_of_length_le (by simp; omega), List.append_nil] at z2
            rw [z2, hx.2.1] at z1
            refine ⟨_, rfl, ?_, HBW.out.trans (z3.mono HBW.out.size)⟩
            rw [boundL_len, hx.2.1]
            exact own_base z1 HBW.out.size
          clear hat hx HAT
          go_wp2
          go_ret
          exact HFIN.out
end Go.Proofs.Ytjbhfonokgkalaa
