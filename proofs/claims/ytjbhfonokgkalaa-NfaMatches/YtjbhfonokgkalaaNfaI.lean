/- The walks of Start, takes, Step, Accepts and Matches. -/
import Derived.Test.YtjbhfonokgkalaaNfaH
namespace Go.Proofs.Ytjbhfonokgkalaa
open Go.RowKit
set_option linter.unusedVariables false
set_option linter.unusedSimpArgs false

/-- A machine as New makes it. -/
def Mach (B : Nat) (w : World) (bm : Nat) (M : List St) (st en : Nat) : Prop := ∃ U, MAt B U w bm M st en ∧ WfL M ∧ szS M ≤ 4000 ∧ st < M.length ∧ en < M.length
theorem Mach.later {B : Nat} {w w' : World} {bm : Nat} {M : List St} {st en : Nat} (h : Mach B w bm M st en) (hb : Below w.heap.size w w') : Mach B w' bm M st en := by
  obtain ⟨U, h1, h2⟩ := h
  exact ⟨U, h1.later hb, h2⟩
theorem new_mach {n : Nd} {B : Nat} {w : World} {bm : Nat} (hok : n.ok = true) (h : MAt B w.heap.size w bm (n.piece []).1 (n.piece []).2.1 (n.piece []).2.2) : Mach B w bm (n.piece []).1 (n.piece []).2.1 (n.piece []).2.2 := by
  obtain ⟨hr, hc⟩ := Nd.ok_right hok
  obtain ⟨h1, h2, h3, h4⟩ := piece_wf n hr
  exact ⟨_, h, h1, by omega, h3, h4⟩
/-- What a call that tells a set leaves. -/
def SetPost (M : List St) (en : Nat) (ats : List Nat) (w : World) (e : Ending) (w' : World) : Prop := ∃ v L, e = .returned v ∧ w'.ownsRow w.heap.size 3 1 v L.length (L.map nI) ∧ IsW M en ats L ∧ Below w.heap.size w w'
set_option maxHeartbeats 2000000 in
theorem start_any (B : Nat) (w : World) (bm : Nat) (M : List St) (st en : Nat) (hm : Mach B w bm M st en) : Calls Try.prog 30 #[.pointer (some ⟨bm, 0, none⟩)] w (SetPost M en [st] w) := by
  obtain ⟨U, h1, h2, h3, h4, h5⟩ := hm
  have c1 := h1.cells.1
  obtain ⟨W, hW⟩ : ∃ W, W = w.alloc (.cells #[.int .i64 (st : Int)] 3) := ⟨_, rfl⟩
  have HB : Hid (Below w.heap.size w W) := by rw [hW]; exact (Below.refl _ w).alloc (Nat.le_refl _) _
  have HC : Hid (Calls Try.prog 54 #[.pointer (some ⟨bm, 0, none⟩), .slice (some ⟨w.heap.size, 0, none⟩) 1 1] W fun e w' => ∃ v L, e = .returned v ∧ w'.ownsRow W.heap.size 3 1 v L.length (L.map nI) ∧ IsW M en [st] L ∧ Below W.heap.size W w') := by
    refine waiting_any B U W bm M st en [st] (some ⟨w.heap.size, 0, none⟩) 1 (h1.later HB.out) h2 (by omega) ?_ (fun t ht => by simp at ht; rw [ht]; exact h4) (by simp)
    rw [hW]
    exact rd_one .i64 w (st : Int) 3 w.heap.size rfl
  unfold nI at c1
  clear h1 h2 h3 h4 h5
  go_enter Try.func30, Try.ntmps30
  go_wp2_with fail
  rw [← hW]
  clear hW c1
  refine HC.out.mono ?_
  rintro e w1 ⟨v, L, rfl, ho, hi, hb⟩
  have HF : Hid (SetPost M en [st] w (.returned v) w1) := ⟨v, L, rfl, own_up ho HB.out.size, hi, HB.out.trans (hb.mono HB.out.size)⟩
  clear ho hi hb HC
  go_wp2
  go_ret
  exact HF.out
set_option maxHeartbeats 2000000 in
theorem takes_any (B : Nat) (w : World) (bm : Nat) (M : List St) (st en : Nat) (x c : Int) (hm : Mach B w bm M st en) : Calls Try.prog 56 #[.pointer (some ⟨bm, 0, none⟩), .int .i64 x, .int .i64 c] w fun e w' => e = .returned (.bool (takesB M x c)) ∧ w' = w := by
  obtain ⟨U, h1, h2, h3, h4, h5⟩ := hm
  obtain ⟨R, hR⟩ : ∃ R, R = takesB M x c := ⟨_, rfl⟩
  rw [← hR]
  have hml := szS_len M
  by_cases hx0 : 0 ≤ x
  · by_cases hx1 : x < (M.length : Int)
    · obtain ⟨q, hq⟩ : ∃ q : Nat, x = (q : Int) := ⟨x.toNat, by omega⟩
      subst hq
      have hqm : q < M.length := by omega
      obtain ⟨g0, c0, ca, cc, na, nc, hv, _⟩ := h1.view q M[q] (List.getElem?_eq_getElem hqm)
      obtain ⟨v0, v1, v2, v3, v4, v5⟩ := hv w (fun _ _ _ _ _ _ => rfl)
      clear v1 v3 v5
      obtain ⟨n, hn⟩ : ∃ n, n = M.length := ⟨_, rfl⟩
      obtain ⟨cn, hcn⟩ : ∃ cn, cn = M[q].cl.length := ⟨_, rfl⟩
      have hRR : R = decide (c ∈ M[q].cl) := by
        rw [hR]; unfold takesB
        rw [decide_eq_true hx0, decide_eq_true hx1, List.getD_eq_getElem?_getD, Int.toNat_natCast, List.getElem?_eq_getElem hqm]
        rfl
      have HC : Hid (Calls Try.prog 55 #[.slice ca cn cc, .int .i64 c] w fun e w' => e = .returned (.bool R) ∧ w' = w) := by
        rw [hRR, hcn]
        exact containsI_any M[q].cl c ca _ cc w v4 (by have := (h2 q M[q] (List.getElem?_eq_getElem hqm)).2.2.2; omega)
      rw [← hn] at v0 hx1
      rw [← hcn] at v2
      have hdx : decide ((q : Int) < (n : Int)) = true := by simpa using hx1
      have hd0 : decide ((0 : Int) ≤ (q : Int)) = true := by simp
      have hdn : decide (q < n) = true := by simp; omega
      clear hR hRR hv v4 hn hcn hml h1 h2 h3 h4 h5
      go_enter Try.func56, Try.ntmps56
      go_wp2_with fail
      refine HC.out.mono ?_
      rintro e w' ⟨rfl, hw'⟩
      obtain rfl : w = w' := hw'.symm
      clear HC v0 v2
      go_wp2
      go_ret
      exact ⟨rfl, rfl⟩
    · have hRR : R = false := by rw [hR]; unfold takesB; rw [decide_eq_false hx1]; simp
      subst hRR
      obtain ⟨g, c9, hc0⟩ : ∃ g c, w.cell? ⟨bm, 0, none⟩ = some (.slice g M.length c) := by
        obtain ⟨_, _, _, v, h3, xs, cv, nv, h4⟩ := h1
        obtain ⟨g, c, rfl⟩ := own_sl1 h4.1
        exact ⟨g, c, cell_of_row w bm 0 _ _ _ h3⟩
      obtain ⟨n, hn⟩ : ∃ n, n = M.length := ⟨_, rfl⟩
      rw [← hn] at hc0 hx1
      have hdx : decide (x < (n : Int)) = false := by simpa using hx1
      have hd0 : decide ((0 : Int) ≤ x) = true := by simpa using hx0
      clear hR hn hml h1 h2 h3 h4 h5
      go_enter Try.func56, Try.ntmps56
      go_wp2
      go_ret
      exact ⟨rfl, rfl⟩
  · have hRR : R = false := by rw [hR]; unfold takesB; rw [decide_eq_false hx0]; simp
    subst hRR
    have hd0 : decide ((0 : Int) ≤ x) = false := by simpa using hx0
    clear hR hml h1 h2 h3 h4 h5
    go_enter Try.func56, Try.ntmps56
    go_wp2
    go_ret
    exact ⟨rfl, rfl⟩
theorem stepAt_snoc (M : List St) (xs : List Int) (x c : Int) : stepAt M (xs ++ [x]) c = stepAt M xs c ++ (if takesB M x c then (M.getD x.toNat st0).next else []) := by simp [stepAt]
theorem stepAt_len (M : List St) (hs : szS M ≤ 4000) (c : Int) : (xs : List Int) → (stepAt M xs c).length ≤ xs.length * 4000
  | [] => by simp [stepAt]
  | x :: r => by
    have ih := stepAt_len M hs c r
    have h : (if takesB M x c then (M.getD x.toNat st0).next else []).length ≤ 4000 := by
      split
      · rw [List.getD_eq_getElem?_getD]
        cases h : M[x.toNat]? with
        | none => simp [st0]
        | some s => have := szS_next M _ s h; simp; omega
      · simp
    show ((if takesB M x c then (M.getD x.toNat st0).next else []) ++ stepAt M r c).length ≤ _
    rw [List.length_append]
    simp only [List.length_cons]
    omega
set_option maxHeartbeats 4000000 in
theorem step_any (B : Nat) (w : World) (bm : Nat) (M : List St) (st en : Nat) (xs : List Int) (c : Int) (a : Option Addr) (len cap : Nat) (hm : Mach B w bm M st en) (hrd : Rd .i64 w a len xs) (hl : len ≤ 100000) : Calls Try.prog 33 #[.pointer (some ⟨bm, 0, none⟩), .slice a len cap, .int .i64 c] w (SetPost M en (stepAt M xs c) w) := by
  have HM : Hid (Mach B w bm M st en) := hm
  have HRD : Hid (Rd .i64 w a len xs) := hrd
  have HL : Hid (xs.length = len ∧ len ≤ 100000) := ⟨hrd.1, hl⟩
  have HSZ : Hid (szS M ≤ 4000) := hm.choose_spec.2.2.1
  obtain ⟨i0, ji, jz0, jz1, jz2⟩ := info_parts info_i
  have HJ : Hid (Try.prog.info? 3 = some i0 ∧ i0.zero = some (.int .i64 0) ∧ i0.size = 1 ∧ i0.bytes = 8) := ⟨ji, jz0, jz1, jz2⟩
  have hli : (len : Int) ≤ 100000 := by omega
  clear hm hrd hl ji jz0 jz1 jz2
  go_enter Try.func33, Try.ntmps33
  go_wp2
  go_loopw [7, 12] (fun x7 x12 wr => ∃ k : Nat, k ≤ len ∧ x12 = .int .i64 k ∧ wr.ownsRow w.heap.size 3 1 x7 (stepAt M (xs.take k) c).length ((stepAt M (xs.take k) c).map nI) ∧ Below w.heap.size w wr) (fun _ x12 _ => len - (intOf x12).toNat)
  case atStart => exact ⟨0, by omega, rfl, World.ownsRow_nil _ _ _ _, Below.refl _ _⟩
  case round =>
    obtain ⟨k, hk, hx12, ho, hb⟩ := hrel
    subst hx12
    obtain ⟨av, cv, rfl⟩ := own_sl1 ho
    obtain ⟨A, hA⟩ : ∃ A, A = stepAt M (xs.take k) c := ⟨_, rfl⟩
    obtain ⟨nl, hnl⟩ : ∃ nl, nl = A.length := ⟨_, rfl⟩
    have hnb : nl ≤ k * 4000 := by
      rw [hnl, hA]
      have h1 := stepAt_len M HSZ.out c (xs.take k)
      have h2 : (xs.take k).length = k := by rw [List.length_take, HL.out.1]; omega
      rw [h2] at h1
      exact h1
    rw [← hA, ← hnl] at ho
    rw [← hA, ← hnl]
    have HA : Hid (A = stepAt M (xs.take k) c ∧ nl = A.length) := ⟨hA, hnl⟩
    have HO : Hid (wr.ownsRow w.heap.size 3 1 (.slice av nl cv) nl (A.map nI)) := ho
    have HB : Hid (Below w.heap.size w wr) := hb
    have hnbi : (nl : Int) ≤ 400000000 := by omega
    clear ho hb hA hnl hnb
    by_cases hlt : k < len
    · have hkl : k < xs.length := by rw [HL.out.1]; exact hlt
      obtain ⟨b, off, rfl, hcl⟩ := (HRD.out.later HB.out).2 (by omega)
      have hck := hcl k hlt
      obtain ⟨x, hx⟩ : ∃ x, x = xs.getD k 0 := ⟨_, rfl⟩
      have hxk : x = xs[k] := by rw [hx]; simp [hkl]
      rw [← hx] at hck
      have HC : Hid (Calls Try.prog 56 #[.pointer (some ⟨bm, 0, none⟩), .int .i64 x, .int .i64 c] wr fun e w' => e = .returned (.bool (takesB M x c)) ∧ w' = wr) := takes_any B wr bm M st en x c (HM.out.later HB.out)
      obtain ⟨t, ht⟩ : ∃ t, t = takesB M x c := ⟨_, rfl⟩
      rw [← ht] at HC
      have hsn : stepAt M (xs.take (k + 1)) c = A ++ (if t then (M.getD x.toNat st0).next else []) := by rw [take_snoc xs k hkl, stepAt_snoc, ← HA.out.1, ← hxk, ht]
      have HT : Hid (t = takesB M x c) := ht
      clear hcl hx hxk ht
      go_wp2_with fail
      refine HC.out.mono ?_
      rintro e w2 ⟨rfl, hw2⟩
      obtain rfl : wr = w2 := hw2.symm
      clear HC hck
      cases t with
      | false =>
        have HNX : Hid (wr.ownsRow w.heap.size 3 1 (.slice av nl cv) (stepAt M (xs.take (k + 1)) c).length ((stepAt M (xs.take (k + 1)) c).map nI)) := by
          show World.ownsRow _ _ _ _ _ _ _
          rw [hsn]
          simp only [Bool.false_eq_true, if_false, List.append_nil]
          rw [← HA.out.2]
          exact HO.out
        clear hsn
        go_wp2
        go_roundw
        case rel => exact ⟨k + 1, by omega, by go_num, HNX.out, HB.out⟩
        case measure => simp [intOf]; omega
      | true =>
        obtain ⟨q, s, hxq, hqs, hcs⟩ := (takesB_iff M x c).1 HT.out.symm
        obtain ⟨U, g1, g2, g3, _, _⟩ := HM.out.later HB.out
        obtain ⟨g0, c0, ca, cc, na, nc, hv, hnn⟩ := g1.view q s hqs
        obtain ⟨v0, v1, v2, v3, v4, v5⟩ := hv wr (fun _ _ _ _ _ _ => rfl)
        have hql := (List.getElem?_eq_some_iff.1 hqs).1
        have hml := szS_len M
        have hnx := szS_next M q s hqs
        obtain ⟨n, hn⟩ : ∃ n, n = M.length := ⟨_, rfl⟩
        obtain ⟨nn, hne⟩ : ∃ nn, nn = s.next.length := ⟨_, rfl⟩
        have hqi : (q : Int) < (n : Int) := by omega
        have hq0 : (0 : Int) ≤ (q : Int) := by omega
        have hnni : (nn : Int) ≤ 4000 := by omega
        rw [← hn] at v0
        rw [← hne] at v3 v5
        have HV5 : Hid (Rd .i64 wr na nn (toI s.next)) := v5
        have HNX : Hid (∀ (v' : Value) (w' : World), w'.ownsRow w.heap.size 3 1 v' (nl + nn) (A.map nI ++ (toI s.next).map (Value.int .i64)) → w'.ownsRow w.heap.size 3 1 v' (stepAt M (xs.take (k + 1)) c).length ((stepAt M (xs.take (k + 1)) c).map nI)) := by
          intro v' w' h
          rw [hsn, hxq]
          simp only [if_true, Int.toNat_natCast]
          rw [List.getD_eq_getElem?_getD, hqs]
          simp only [Option.getD_some, List.length_append, List.map_append]
          rw [← HA.out.2, ← hne, ← toI_map s.next]
          exact h
        have HBW : Hid (w.heap.size ≤ wr.heap.size) := HB.out.size
        have HNN : Hid (na = none → nc = 0) := hnn
        subst hxq
        clear hsn hcs hqs g1 g2 g3 hv v1 v2 v4 v5 hml hnx hn hne hnn hql
        go_wp2_with (at_builtin; refine wpList_append_rd rfl _ _ 23 rfl w.heap.size 3 i0 _ 8 Try.underlying23 HJ.out.1 HJ.out.2.1 HJ.out.2.2.1 HJ.out.2.2.2 rfl (.slice av nl cv) nl (A.map nI) rfl HO.out na nn nc .i64 (toI s.next) rfl HV5.out HNN.out (by unfold maxLen; omega) (by omega) HBW.out (fun v' w4 q1 q2 => ?_); obtain ⟨av4, cv4, rfl⟩ := own_sl1 q1; have HO4 : Hid (w4.ownsRow w.heap.size 3 1 (.slice av4 (nl + nn) cv4) (stepAt M (xs.take (k + 1)) c).length ((stepAt M (xs.take (k + 1)) c).map nI)) := HNX.out _ w4 q1; have HB4 : Hid (Below w.heap.size w w4) := HB.out.grown q2 HBW.out (fun y hy => (HO.out.lt y hy).1); clear q1 q2)
        go_roundw
        case rel => exact ⟨k + 1, by omega, by go_num, HO4.out, HB4.out⟩
        case measure => simp [intOf]; omega
    · have hkx : xs.take k = xs := List.take_of_length_le (by rw [HL.out.1]; omega)
      have hA := HA.out
      rw [hkx] at hA
      obtain ⟨U, g1, g2, g3, g4, g5⟩ := HM.out.later HB.out
      have HC : Hid (Calls Try.prog 54 #[.pointer (some ⟨bm, 0, none⟩), .slice av nl cv] wr fun e w' => ∃ v L, e = .returned v ∧ w'.ownsRow wr.heap.size 3 1 v L.length (L.map nI) ∧ IsW M en (stepAt M xs c) L ∧ Below wr.heap.size wr w') := by
        have h1 := HO.out
        rw [← toI_map] at h1
        obtain ⟨a', c', e', _, _, h2⟩ := rd_own h1
        cases e'
        rw [hA.2] at h2 ⊢
        rw [← hA.1]
        refine waiting_any B U wr bm M st en A av cv g1 g2 (by omega) h2 (fun t ht => ?_) (by omega)
        rw [hA.1] at ht
        exact stepAt_lt g2 xs c t ht
      have HBW : Hid (w.heap.size ≤ wr.heap.size) := HB.out.size
      clear hkx hA g1 g2 g3 g4 g5
      go_wp2_with fail
      refine HC.out.mono ?_
      rintro e w1 ⟨v, L, rfl, ho, hi, hb⟩
      have HF : Hid (SetPost M en (stepAt M xs c) w (.returned v) w1) := ⟨v, L, rfl, own_up ho HBW.out, hi, HB.out.trans (hb.mono HBW.out)⟩
      clear ho hi hb HC
      go_wp2
      go_ret
      exact HF.out
theorem accepts_any (B : Nat) (w : World) (bm : Nat) (M : List St) (st en : Nat) (xs : List Int) (a : Option Addr) (len cap : Nat) (hm : Mach B w bm M st en) (hrd : Rd .i64 w a len xs) (hl : len ≤ 1000000) : Calls Try.prog 31 #[.pointer (some ⟨bm, 0, none⟩), .slice a len cap] w fun e w' => e = .returned (.bool (decide ((en : Int) ∈ xs))) ∧ w' = w := by
  obtain ⟨U, h1, _⟩ := hm
  have c1 := h1.cells.2.1
  unfold nI at c1
  have HC : Hid (Calls Try.prog 55 #[.slice a len cap, .int .i64 (en : Int)] w fun e w' => e = .returned (.bool (decide ((en : Int) ∈ xs))) ∧ w' = w) := containsI_any xs (en : Int) a len cap w hrd (by omega)
  obtain ⟨R, hR⟩ : ∃ R, R = decide ((en : Int) ∈ xs) := ⟨_, rfl⟩
  rw [← hR] at HC ⊢
  clear h1 hR hrd
  go_enter Try.func31, Try.ntmps31
  go_wp2_with fail
  refine HC.out.mono ?_
  rintro e w' ⟨rfl, hw'⟩
  obtain rfl : w = w' := hw'.symm
  clear HC c1
  go_wp2
  go_ret
  exact ⟨rfl, rfl⟩
/-- A set that a call told, read as numbers. -/
theorem set_rd {w : World} {B : Nat} {v : Value} {L : List Nat} (h : w.ownsRow B 3 1 v L.length (L.map nI)) : ∃ a c, v = .slice a L.length c ∧ Rd .i64 w a L.length (toI L) := by
  rw [← toI_map] at h
  obtain ⟨a, c, rfl, _, _, h2⟩ := rd_own h
  exact ⟨a, c, rfl, h2⟩
theorem toI_mem (L : List Nat) (q : Nat) : (q : Int) ∈ toI L ↔ q ∈ L := by
  unfold toI
  constructor
  · intro h
    obtain ⟨x, hx, e⟩ := List.mem_map.1 h
    obtain rfl : x = q := by omega
    exact hx
  · intro h
    exact List.mem_map.2 ⟨q, h, rfl⟩
/-- What Matches tells. -/
def MaPost (M : List St) (st en : Nat) (xs : List Int) (w : World) (e : Ending) (w' : World) : Prop := ∃ b : Bool, e = .returned (.bool b) ∧ (b = true ↔ AccS M en [st] xs) ∧ Below w.heap.size w w'
set_option maxHeartbeats 4000000 in
theorem matches_any (B : Nat) (w : World) (bm : Nat) (M : List St) (st en : Nat) (xs : List Int) (a : Option Addr) (len cap : Nat) (hm : Mach B w bm M st en) (hrd : Rd .i64 w a len xs) (hl : len ≤ 1000000) : Calls Try.prog 32 #[.pointer (some ⟨bm, 0, none⟩), .slice a len cap] w (MaPost M st en xs w) := by
  have HM : Hid (Mach B w bm M st en) := hm
  have HRD : Hid (Rd .i64 w a len xs) := hrd
  have HL : Hid (xs.length = len) := hrd.1
  obtain ⟨U, m1, m2, m3, m4, m5⟩ := hm
  have HWF : Hid (WfL M ∧ M.length ≤ 4000 ∧ en < M.length) := ⟨m2, by have := szS_len M; omega, m5⟩
  have HS : Hid (Calls Try.prog 30 #[.pointer (some ⟨bm, 0, none⟩)] w (SetPost M en [st] w)) := start_any B w bm M st en HM.out
  have hli : (len : Int) ≤ 1000000 := by omega
  clear m1 m2 m3 m4 m5 hrd hl
  go_enter Try.func32, Try.ntmps32
  go_wp2_with fail
  refine HS.out.mono ?_
  rintro e w1 ⟨v, L, rfl, ho, hi, hb⟩
  have HO1 : Hid (w1.ownsRow w.heap.size 3 1 v L.length (L.map nI) ∧ IsW M en [st] L ∧ Below w.heap.size w w1) := ⟨ho, hi, hb⟩
  clear ho hi hb HS
  go_wp2
  go_loopw [5, 12] (fun x5 x12 wr => ∃ k : Nat, k ≤ len ∧ x12 = .int .i64 k ∧ ∃ L ats, wr.ownsRow w.heap.size 3 1 x5 L.length (L.map nI) ∧ IsW M en ats L ∧ Below w.heap.size w wr ∧ ∀ u, AccS M en [st] (xs.take k ++ u) ↔ AccS M en ats u) (fun _ x12 _ => len - (intOf x12).toNat)
  case atStart => exact ⟨0, by omega, rfl, L, [st], HO1.out.1, HO1.out.2.1, HO1.out.2.2, fun u => Iff.rfl⟩
  case round =>
    obtain ⟨k, hk, hx12, K, ats, ho, hi, hb, hacc⟩ := hrel
    subst hx12
    obtain ⟨av, cv, hav, hrk⟩ := set_rd ho
    subst hav
    obtain ⟨nl, hnl⟩ : ∃ nl, nl = K.length := ⟨_, rfl⟩
    have hnb : nl ≤ 4000 := by rw [hnl]; have := isW_len hi; have := HWF.out.2.1; omega
    rw [← hnl] at hrk ⊢
    have HI : Hid (IsW M en ats K) := hi
    have HB : Hid (Below w.heap.size w wr) := hb
    have HACC : Hid (∀ u, AccS M en [st] (xs.take k ++ u) ↔ AccS M en ats u) := hacc
    have HRK : Hid (Rd .i64 wr av nl (toI K)) := hrk
    clear ho hi hb hacc hrk hnl HO1
    by_cases hlt : k < len
    · have hkl : k < xs.length := by rw [HL.out]; exact hlt
      obtain ⟨b, off, rfl, hcl⟩ := (HRD.out.later HB.out).2 (by omega)
      have hck := hcl k hlt
      obtain ⟨x, hx⟩ : ∃ x, x = xs.getD k 0 := ⟨_, rfl⟩
      have hxk : x = xs[k] := by rw [hx]; simp [hkl]
      rw [← hx] at hck
      have HC : Hid (Calls Try.prog 33 #[.pointer (some ⟨bm, 0, none⟩), .slice av nl cv, .int .i64 x] wr (SetPost M en (stepAt M (toI K) x) wr)) := step_any B wr bm M st en (toI K) x av nl cv (HM.out.later HB.out) HRK.out (by omega)
      have HNA : Hid (∀ u, AccS M en [st] (xs.take (k + 1) ++ u) ↔ AccS M en (stepAt M (toI K) x) u) := by
        intro u
        rw [take_snoc xs k hkl, ← hxk, List.append_assoc, HACC.out]
        exact isW_cons HWF.out.1 HI.out x u
      clear hcl hx hxk
      go_wp2_with fail
      refine HC.out.mono ?_
      rintro e w2 ⟨v2, L2, rfl, ho2, hi2, hb2⟩
      have HN2 : Hid (w2.ownsRow w.heap.size 3 1 v2 L2.length (L2.map nI) ∧ IsW M en (stepAt M (toI K) x) L2 ∧ Below w.heap.size w w2) := ⟨own_up ho2 HB.out.size, hi2, HB.out.trans (hb2.mono HB.out.size)⟩
      clear ho2 hi2 hb2 hck HC
      go_wp2
      go_roundw
      case rel => exact ⟨k + 1, by omega, by go_num, L2, _, HN2.out.1, HN2.out.2.1, HN2.out.2.2, HNA.out⟩
      case measure => simp [intOf]; omega
    · have hkx : xs.take k = xs := List.take_of_length_le (by rw [HL.out]; omega)
      have HC : Hid (Calls Try.prog 31 #[.pointer (some ⟨bm, 0, none⟩), .slice av nl cv] wr fun e w' => e = .returned (.bool (decide ((en : Int) ∈ toI K))) ∧ w' = wr) := accepts_any B wr bm M st en (toI K) av nl cv (HM.out.later HB.out) HRK.out (by omega)
      obtain ⟨R, hR⟩ : ∃ R, R = decide ((en : Int) ∈ toI K) := ⟨_, rfl⟩
      rw [← hR] at HC
      have HF : Hid (MaPost M st en xs w (.returned (.bool R)) wr) := by
        refine ⟨R, rfl, ?_, HB.out⟩
        have h1 := HACC.out []
        rw [hkx, List.append_nil] at h1
        rw [hR, decide_eq_true_eq, toI_mem, h1]
        exact isW_nil HI.out HWF.out.2.2
      clear hkx hR
      go_wp2_with fail
      refine HC.out.mono ?_
      rintro e w2 ⟨rfl, hw2⟩
      obtain rfl : wr = w2 := hw2.symm
      clear HC
      go_wp2
      go_ret
      exact HF.out
end Go.Proofs.Ytjbhfonokgkalaa
