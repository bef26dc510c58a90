/- The walk of addLine: what a line does to the ranges so far. -/
import Derived.Test.YtgncpchgmjacdaaGreatDoorPropsH
namespace Go.Proofs.YtgncpchgmjacdaaGreatDoor
open Go.RowKit
set_option linter.unusedVariables false

theorem own_rdR {w : World} {B : Nat} {v : Value} {n : Nat} {rs : List Rg} (h : w.ownsRow B 39 3 v n (flatR rs)) : ∃ a cap, v = .slice a n cap ∧ n ≤ cap ∧ cap ≤ 9223372036854775807 ∧ RdR w a n rs := by
  have hl : rs.length = n := by have := h.1; rw [flatR_len] at this; omega
  rcases h.2 with ⟨rfl, rfl⟩ | ⟨g, cap, cur, rfl, hb, hg, hn, hm, hs, ht⟩
  · exact ⟨none, 0, rfl, by omega, by omega, hl, fun hp => absurd hp (by omega)⟩
  · refine ⟨_, cap, rfl, hn, by simpa [maxLen] using hm, hl, fun hp => ⟨g, 0, rfl, fun j u hu => ?_⟩⟩
    rw [Nat.zero_add, cell_of_row w g j _ _ _ hg]
    rw [← ht, List.getElem?_take] at hu
    split at hu
    · simpa using hu
    · cases hu
theorem ownR_later {w w' : World} {B : Nat} {v : Value} {n : Nat} {xs : List Value} (h : w.ownsRow B 39 3 v n xs) (hb : Below w.heap.size w w') : w'.ownsRow B 39 3 v n xs :=
  h.kept (row := none) ⟨hb.os, hb.tape, hb.output, hb.size, fun k hk _ => hb.block k hk⟩ (Classical.em _)
theorem ins_len (x : Rg) (out : List Rg) : (ins x out).length = out.length + 1 := len_ins x out
/-- What a line's text reads as, by the code's way. -/
theorem rr_one (s : List Int) (ht : rtr s = s) : (oneOf s = none ∧ rr s = ((0, 0, []), false)) ∨ ∃ x, oneOf s = some x ∧ rr s = (x, true) := by
  have h := rone_eq s ht
  unfold rr
  rw [h]
  cases oneOf s with
  | none => left; exact ⟨rfl, rfl⟩
  | some x => right; exact ⟨x, rfl, rfl⟩
theorem one_rng (s : List Int) (x : Rg) (h : oneOf s = some x) : 0 ≤ x.1 ∧ x.1 ≤ 16777215 ∧ 0 ≤ x.2.1 ∧ x.2.1 ≤ 16777215 := by
  have hn : ∀ (t : List Int) v k, numAt t = some (v, k) → 0 ≤ v ∧ v ≤ 16777215 := by
    intro t v k ht
    obtain ⟨l, r, _, q1, q2, q3, q4, _⟩ := numAt_some t v k ht
    obtain ⟨a1, a2⟩ := hval_rng l q1
    have : (16 : Int) ^ l.length ≤ 16 ^ 6 := by
      have : (16 : Nat) ^ l.length ≤ 16 ^ 6 := Nat.pow_le_pow_right (by decide) q3
      exact_mod_cast this
    have e : (16 : Int) ^ 6 = 16777216 := by decide
    rw [q4]
    omega
  unfold oneOf at h
  cases h1 : numAt s with
  | none => rw [h1] at h; cases h
  | some p =>
    rw [h1] at h
    simp only [] at h
    have r1 := hn s p.1 p.2 h1
    cases h2 : tailOf p.1 (s.drop p.2) with
    | none => rw [h2] at h; cases h
    | some q =>
      rw [h2] at h
      simp only [] at h
      have r2 : 0 ≤ q.1 ∧ q.1 ≤ 16777215 := by
        unfold tailOf at h2
        split at h2
        · cases h3 : numAt ((s.drop p.2).drop 2) with
          | none => rw [h3] at h2; cases h2
          | some m =>
            rw [h3] at h2
            cases h2
            exact hn _ m.1 m.2 h3
        · cases h2; exact r1
      cases h4 : clsOf q.2 with
      | none => rw [h4] at h; cases h
      | some nm =>
        rw [h4] at h
        cases h
        exact ⟨r1.1, r1.2, r2.1, r2.2⟩
/-- What addLine leaves. -/
def AddPost (B : Nat) (out : List Rg) (st : Step) (v : Value) (w : World) (e : Ending) (w' : World) : Prop :=
  Below B w w' ∧ match st with
  | none => e = .returned (.tuple #[v, .int .i64 0]) ∧ w'.ownsRow B 39 3 v out.length (flatR out)
  | some (.inl k) => e = .returned (.tuple #[.slice none 0 0, .int .i64 k])
  | some (.inr x) => ∃ v', e = .returned (.tuple #[v', .int .i64 0]) ∧ w'.ownsRow B 39 3 v' (ins x out).length (flatR (ins x out))
theorem step_none (out : List Rg) (l : List Int) (h : trm (noNote l) = []) : stepOf out l = none := by unfold stepOf; rw [if_pos h]
theorem step_form (out : List Rg) (l : List Int) (h : trm (noNote l) ≠ []) (h1 : oneOf (trm (noNote l)) = none) : stepOf out l = some (.inl 2) := by unfold stepOf; rw [if_neg h, h1]
theorem step_range (out : List Rg) (l : List Int) (x : Rg) (h : trm (noNote l) ≠ []) (h1 : oneOf (trm (noNote l)) = some x) (h2 : reR x = false) : stepOf out l = some (.inl 3) := by
  have hr := one_rng _ x h1
  unfold stepOf; rw [if_neg h, h1]
  simp only []
  rw [if_pos]
  unfold reR at h2
  simp at h2
  by_cases a : x.1 ≤ x.2.1
  · have := h2 hr.1 a; omega
  · omega
theorem step_rest (out : List Rg) (l : List Int) (x : Rg) (h : trm (noNote l) ≠ []) (h1 : oneOf (trm (noNote l)) = some x) (h2 : reR x = true) :
    stepOf out l = if out.any (meets x) = true then some (.inl 6) else if 2000 ≤ out.length then some (.inl 4) else some (.inr x) := by
  unfold stepOf; rw [if_neg h, h1]
  simp only []
  rw [if_neg]
  unfold reR at h2
  simp at h2
  omega
theorem reR_le (x : Rg) (h : reR x = true) : x.1 ≤ x.2.1 := by
  unfold reR at h; simp at h; omega
theorem noNote_rng (bs : List Int) (h : ∀ y ∈ bs, 0 ≤ y ∧ y ≤ 255) : (∀ y ∈ noNote bs, 0 ≤ y ∧ y ≤ 255) ∧ (noNote bs).length ≤ bs.length := by
  obtain ⟨c1, _, c3, _⟩ := cut1_rng 35 bs h
  rw [cut1_note] at c1 c3
  exact ⟨c1, c3⟩

set_option maxHeartbeats 4000000 in
theorem addLine_any (out : List Rg) (bs : List Int) (B : Nat) (v : Value) (w : World) (ha : Asc out) (hn : out.length ≤ 2000) (hown : w.ownsRow B 39 3 v out.length (flatR out)) (hB : B ≤ w.heap.size)
    (hr : ∀ y ∈ bs, 0 ≤ y ∧ y ≤ 255) (hl : bs.length < 4294967281) (hg : Gl w) :
    Calls Tryz.prog 41 #[v, .string (strOfNums bs)] w (AddPost B out (stepOf out bs) v w) := by
  obtain ⟨a, cap, hv, hcap, hc63, hrd⟩ := own_rdR hown
  obtain ⟨S, hS⟩ : ∃ S, S = trm (noNote bs) := ⟨_, rfl⟩
  obtain ⟨n1, n2⟩ := noNote_rng bs hr
  obtain ⟨t1, t2⟩ := trm_rng (noNote bs) n1
  rw [← hS] at t1 t2
  have hrtr : rtr S = S := by rw [hS]; exact rtr_rtr _
  have HS : Hid (S = trm (noNote bs)) := hS
  have HO : Hid (w.ownsRow B 39 3 v out.length (flatR out)) := hown
  have HA : Hid (Asc out) := ha
  have HR : Hid (∀ y ∈ bs, 0 ≤ y ∧ y ≤ 255) := hr
  have HT : Hid (∀ y ∈ S, 0 ≤ y ∧ y ≤ 255) := t1
  have HTL : Hid (S.length < 4294967281) := by show S.length < _; omega
  have HG : Hid (Gl w) := hg
  have HD : Hid (RdR w a out.length out) := hrd
  have HRT : Hid (rtr S = S) := hrtr
  have HV : Hid (v = .slice a out.length cap) := hv
  have HOB : Hid (∀ k, v.ownBlock = some k → B ≤ k ∧ k < w.heap.size) := hown.lt
  obtain ⟨n, hnn⟩ : ∃ n, n = out.length := ⟨_, rfl⟩
  have HNN : Hid (n = out.length) := hnn
  obtain ⟨st, hst⟩ : ∃ st, st = stepOf out bs := ⟨_, rfl⟩
  rw [← hst]
  have HST : Hid (st = stepOf out bs) := hst
  obtain ⟨ss, hss⟩ : ∃ ss, ss = strOfNums S := ⟨_, rfl⟩
  have HSS : Hid (strOfNums S = ss) := hss.symm
  rw [← hnn] at hn hcap hv
  have HVN : Hid (v = .slice a n cap) := hv
  clear hS n1 n2 t1 t2 hrtr hown ha hr hg hrd hnn hst
  subst hv
  by_cases hnil : S = []
  · have he : ss.toList.isEmpty = true := by rw [hss, hnil]; exact str_none
    have hst : st = none := HST.out.trans (step_none out bs (by rw [← HS.out]; exact hnil))
    subst hst
    clear hss hnil
    go_enter Tryz.func41, Tryz.ntmps41
    go_wp2_with fail
    refine (bare_any bs _ HR.out hl HG.out).mono ?_
    rw [← HS.out, HSS.out]
    rintro e w1 ⟨rfl, hb1⟩
    have HF : Hid (AddPost B out none (.slice a n cap) w (.returned (.tuple #[.slice a n cap, .int .i64 0])) w1) := ⟨hb1.mono hB, rfl, ownR_later HO.out hb1⟩
    clear hb1
    go_wp2
    go_ret2
    exact HF.out
  · have he : ss.toList.isEmpty = false := by
      rw [hss]
      exact str_some S (by cases S with | nil => exact absurd rfl hnil | cons _ _ => simp)
    have HNIL : Hid (trm (noNote bs) ≠ []) := by show trm (noNote bs) ≠ []; rw [← HS.out]; exact hnil
    clear hss hnil
    go_enter Tryz.func41, Tryz.ntmps41
    go_wp2_with fail
    refine (bare_any bs _ HR.out hl HG.out).mono ?_
    rw [← HS.out, HSS.out]
    rintro e w1 ⟨rfl, hb1⟩
    have HB1 : Hid (Below w.heap.size w w1) := hb1
    have HG1 : Hid (Gl w1) := HG.out.later hb1
    clear hb1
    go_wp2_with fail
    rw [← HSS.out]
    refine (readRange_any S _ HT.out HTL.out HG1.out).mono ?_
    rw [HSS.out]
    rcases rr_one S HRT.out with ⟨h1, h2⟩ | ⟨x, h1, h2⟩
    · have hst : st = some (.inl 2) := HST.out.trans (step_form out bs HNIL.out (by rw [← HS.out]; exact h1))
      subst hst
      have HRR : Hid (rr S = ((0, 0, []), false)) := h2
      clear h1 h2
      rw [HRR.out]
      rintro e w2 ⟨rfl, hb2⟩
      have HF : Hid (∀ o : Obj, AddPost B out (some (.inl 2)) (.slice a n cap) w (.returned (.tuple #[.slice none 0 0, .int .i64 2])) (w2.alloc o)) := fun o =>
        ⟨((HB1.out.trans (hb2.mono HB1.out.size)).alloc (Nat.le_trans HB1.out.size hb2.size) o).mono hB, rfl⟩
      clear hb2
      simp only [encR]
      go_wp2
      go_ret2
      exact HF.out _
    · have HRR : Hid (rr S = (x, true)) := h2
      have HX1 : Hid (oneOf (trm (noNote bs)) = some x) := by show _ = _; rw [← HS.out]; exact h1
      clear h1 h2
      rw [HRR.out]
      rintro e w2 ⟨rfl, hb2⟩
      have HB2 : Hid (Below w.heap.size w w2) := HB1.out.trans (hb2.mono HB1.out.size)
      clear hb2
      obtain ⟨p, q, r⟩ := x
      obtain ⟨sr, hsr⟩ : ∃ sr, sr = strOfNums r := ⟨_, rfl⟩
      have HEX : Hid (#[.int .i32 p, .int .i32 q, .string sr] = (encR (p, q, r)).toArray) := by rw [hsr]; rfl
      simp only []
      rw [← HEX.out]
      clear hsr
      go_wp2_with fail
      have HRE : Hid (∀ W : World, Calls Tryz.prog 48 #[.agg #[.int .i32 p, .int .i32 q, .string sr]] W fun e w' => e = .returned (.bool (reR (p, q, r))) ∧ Below W.heap.size W w') := by
        intro W; rw [HEX.out]; exact rightEnds_any (p, q, r) W
      refine (HRE.out _).mono ?_
      cases hre : reR (p, q, r) with
      | false =>
        have hst : st = some (.inl 3) := HST.out.trans (step_range out bs (p, q, r) HNIL.out HX1.out hre)
        subst hst
        clear hre
        rintro e w3 ⟨rfl, hb3⟩
        have HF : Hid (AddPost B out (some (.inl 3)) (.slice a n cap) w (.returned (.tuple #[.slice none 0 0, .int .i64 3])) w3) :=
          ⟨((HB2.out.alloc HB2.out.size _).trans (hb3.mono (by simp; have := HB2.out.size; omega))).mono hB, rfl⟩
        clear hb3
        go_wp2
        go_ret2
        exact HF.out
      | true =>
        have HLE : Hid (p ≤ q) := reR_le (p, q, r) hre
        have HSR : Hid (st = if out.any (meets (p, q, r)) = true then some (.inl 6) else if 2000 ≤ out.length then some (.inl 4) else some (.inr (p, q, r))) := HST.out.trans (step_rest out bs (p, q, r) HNIL.out HX1.out hre)
        clear hre
        rintro e w3 ⟨rfl, hb3⟩
        obtain ⟨N, hN⟩ : ∃ N, N = w2.heap.size := ⟨_, rfl⟩
        have HB3 : Hid (Below w.heap.size w w3) := (HB2.out.alloc HB2.out.size _).trans (hb3.mono (by simp; have := HB2.out.size; omega))
        have HN3 : Hid (w3.heap[N]? = some (.cells #[.int .i32 p, .int .i32 q, .string sr] 39)) := by
          show w3.heap[N]? = _
          rw [hN, hb3.block _ (by simp)]; exact heap_alloc_new w2 _
        rw [← hN]
        clear hb3 hN
        obtain ⟨⟨k0, k1, k2⟩, _⟩ := box3 HN3.out
        have HBS : Hid (∀ W : World, Below w.heap.size w W → Calls Tryz.prog 70 #[.slice a n cap, .agg #[.int .i32 p, .int .i32 q, .string sr], .func (.func 71) #[] #[]] W
            fun e w' => ∃ i : Nat, i ≤ out.length ∧ BsAt out (p, q, r) i i ∧ e = .returned (.tuple #[.int .i64 i, .bool (bsF out (p, q, r) i)]) ∧ Below W.heap.size W w') := by
          intro W hW
          rw [HEX.out]
          exact bsR_any out (p, q, r) a n cap W HA.out (by rw [HNN.out]; exact HD.out.later hW) (by omega)
        go_wp2_with fail
        refine (HBS.out _ HB3.out).mono ?_
        rintro e w4 ⟨i, hi, hbs, rfl, hb4⟩
        have HB4 : Hid (Below w.heap.size w w4) := HB3.out.trans (hb4.mono HB3.out.size)
        have HN4 : Hid (w4.heap[N]? = some (.cells #[.int .i32 p, .int .i32 q, .string sr] 39)) := by
          show w4.heap[N]? = _
          rw [hb4.block _ (Array.getElem?_eq_some_iff.1 HN3.out).1]; exact HN3.out
        have HBA : Hid (BsAt out (p, q, r) i i) := hbs
        have HI : Hid (i ≤ out.length) := hi
        have HM : Hid (out.any (meets (p, q, r)) = bsF out (p, q, r) i) := bs_meets out (p, q, r) i HA.out hi HLE.out hbs
        clear hb4 hbs hi k0 k1 k2
        cases hf : bsF out (p, q, r) i with
        | true =>
          have hst : st = some (.inl 6) := by rw [HSR.out, if_pos (by rw [HM.out]; exact hf)]
          subst hst
          have HF : Hid (AddPost B out (some (.inl 6)) (.slice a n cap) w (.returned (.tuple #[.slice none 0 0, .int .i64 6])) w4) := ⟨HB4.out.mono hB, rfl⟩
          clear hf
          go_wp2
          go_ret2
          exact HF.out
        | false =>
          have hnm : ¬ out.any (meets (p, q, r)) = true := by rw [HM.out, hf]; simp
          by_cases h2000 : 2000 ≤ n
          · have hst : st = some (.inl 4) := by rw [HSR.out, if_neg hnm, if_pos (by rw [← HNN.out]; exact h2000)]
            subst hst
            have HF : Hid (AddPost B out (some (.inl 4)) (.slice a n cap) w (.returned (.tuple #[.slice none 0 0, .int .i64 4])) w4) := ⟨HB4.out.mono hB, rfl⟩
            have hz : (2000 : Int) ≤ (n : Int) := by omega
            clear hf hnm h2000 hn
            go_wp2
            go_ret2
            exact HF.out
          · have hst : st = some (.inr (p, q, r)) := by rw [HSR.out, if_neg hnm, if_neg (by rw [← HNN.out]; exact h2000)]
            subst hst
            have HINS : Hid (out.take i ++ (p, q, r) :: out.drop i = ins (p, q, r) out) := bs_ins out (p, q, r) i HA.out HI.out HLE.out HBA.out hf
            clear hf hnm
            obtain ⟨⟨k0, k1, k2⟩, _⟩ := box3 HN4.out
            have HIN : Hid (∀ vb W, Below w.heap.size w W → w.heap.size ≤ vb → W.heap[vb]? = some (.cells #[.int .i32 p, .int .i32 q, .string sr] 39) →
                Calls Tryz.prog 72 #[.slice a n cap, .int .i64 i, .slice (some ⟨vb, 0, none⟩) 1 1] W (InsPost B (ins (p, q, r) out) (.slice a n cap) W)) := by
              intro vb W hW hvb hblk
              rw [← HINS.out]
              refine insert_any out (p, q, r) B (.slice a n cap) vb i W (by have := ownR_later HO.out hW; exact this) (Nat.le_trans hB hW.size) HI.out (by rw [← HEX.out]; exact hblk) ?_ (by rw [← HNN.out]; omega)
              intro hc
              have := (HOB.out vb hc).2
              omega
            have hz : (n : Int) < 2000 := by omega
            have hz2 : decide ((2000 : Int) ≤ (n : Int)) = false := decide_eq_false (by omega)
            clear h2000 hn
            go_wp2_with fail
            refine (HIN.out _ _ (HB4.out.alloc HB4.out.size _) HB4.out.size (heap_alloc_new w4 _)).mono ?_
            rintro e w5 ⟨v', rfl, ho5, hg5⟩
            have HF : Hid (AddPost B out (some (.inr (p, q, r))) (.slice a n cap) w (.returned (.tuple #[v', .int .i64 0])) w5) := by
              refine ⟨?_, v', rfl, ho5⟩
              exact ((HB4.out.alloc HB4.out.size _).mono hB).grown hg5 (Nat.le_trans hB (by have := HB4.out.size; simp; omega)) (fun k hk => (HOB.out k hk).1)
            clear ho5 hg5
            go_wp2
            go_ret2
            exact HF.out
end Go.Proofs.YtgncpchgmjacdaaGreatDoor
