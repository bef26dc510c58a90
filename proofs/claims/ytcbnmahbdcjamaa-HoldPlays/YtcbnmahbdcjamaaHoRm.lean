/- The walk of the statement's drop over the reference's hold. -/
import Derived.Test.YtcbnmahbdcjamaaHoRl
namespace Go.Proofs.Ytcbnmahbdcjamaa
open Go.RowKit Go.Sort
set_option linter.unusedVariables false
set_option linter.unusedSimpArgs false

theorem drop_keys {l : List Opn} (hA : AscK l) (i : Nat) (hi : i < l.length) : (∀ x ∈ l.take i, ¬ (x.a = (l.getD i op0).a ∧ x.s = (l.getD i op0).s)) ∧ ∀ x ∈ l.drop (i + 1), ¬ (x.a = (l.getD i op0).a ∧ x.s = (l.getD i op0).s) := by
  constructor
  · intro x hx
    obtain ⟨j, hj, rfl⟩ := List.mem_iff_getElem.1 hx
    rw [List.length_take] at hj
    have h1 := asc_at hA j i (by omega) hi
    have e : (l.take i)[j] = l.getD j op0 := by simp [List.getD, List.getElem?_eq_getElem (show j < l.length by omega)]
    rw [e]
    have h2 := ltK_ne h1
    unfold eqK at h2
    exact h2
  · intro x hx
    obtain ⟨j, hj, rfl⟩ := List.mem_iff_getElem.1 hx
    rw [List.length_drop] at hj
    have h1 := asc_at hA i (i + 1 + j) (by omega) (by omega)
    have e : (l.drop (i + 1))[j] = l.getD (i + 1 + j) op0 := by simp [List.getD, List.getElem?_eq_getElem (show i + 1 + j < l.length by omega)]
    rw [e]
    have h2 := ltK_ne h1
    unfold eqK at h2
    exact fun q => h2 ⟨q.1.symm, q.2.symm⟩
theorem drop_yes {l : List Opn} (hA : AscK l) (Q : Opn → Bool) (i : Nat) (hi : i < l.length) (hq : Q (l.getD i op0) = true) : remK ((l.take i).filter (fun x => !Q x) ++ l.drop i) (l.getD i op0).a (l.getD i op0).s = (l.take (i + 1)).filter (fun x => !Q x) ++ l.drop (i + 1) := by
  obtain ⟨h1, h2⟩ := drop_keys hA i hi
  rw [take_nextH l i hi, List.filter_append, drop_head l i hi]
  generalize l.getD i op0 = E at *
  unfold remK
  rw [List.filter_append, List.filter_cons_of_neg (by simp), List.filter_cons_of_neg (by simp [hq]), List.filter_nil, List.append_nil]
  congr 1
  · rw [List.filter_eq_self]
    intro x hx
    have := h1 x (List.mem_filter.1 hx).1
    simp only [Bool.not_eq_true', Bool.and_eq_false_iff, decide_eq_false_iff_not]
    by_cases e : x.a = E.a
    · exact .inr fun q => this ⟨e, q⟩
    · exact .inl e
  · rw [List.filter_eq_self]
    intro x hx
    have := h2 x hx
    simp only [Bool.not_eq_true', Bool.and_eq_false_iff, decide_eq_false_iff_not]
    by_cases e : x.a = E.a
    · exact .inr fun q => this ⟨e, q⟩
    · exact .inl e
theorem drop_no (l : List Opn) (Q : Opn → Bool) (i : Nat) (hi : i < l.length) (hq : Q (l.getD i op0) = false) : (l.take i).filter (fun x => !Q x) ++ l.drop i = (l.take (i + 1)).filter (fun x => !Q x) ++ l.drop (i + 1) := by
  rw [take_nextH l i hi, List.filter_append, drop_head l i hi]
  generalize l.getD i op0 = E at *
  rw [List.filter_cons_of_pos (by simp [hq]), List.filter_nil, List.append_assoc]
  rfl
theorem drop_cnt (l : List Opn) (Q : Opn → Bool) (i : Nat) (hi : i < l.length) : ((l.take (i + 1)).filter Q).length = ((l.take i).filter Q).length + (if Q (l.getD i op0) = true then 1 else 0) := by
  rw [take_nextH l i hi, List.filter_append, List.length_append]
  generalize l.getD i op0 = E at *
  cases h : Q E
  · rw [List.filter_cons_of_neg (by simp [h])]; simp
  · rw [List.filter_cons_of_pos h]; simp
theorem two_parts (l : List Opn) (Q : Opn → Bool) : (l.length : Int) - ((l.filter fun x => !Q x).length : Int) = ((l.filter Q).length : Int) := by
  have : (l.filter Q).length + (l.filter fun x => !Q x).length = l.length := by
    induction l with
    | nil => rfl
    | cons x l ih =>
      cases h : Q x
      · rw [List.filter_cons_of_neg (by simp [h]), List.filter_cons_of_pos (by simp [h])]
        simp only [List.length_cons]
        omega
      · rw [List.filter_cons_of_pos h, List.filter_cons_of_neg (by simp [h])]
        simp only [List.length_cons]
        omega
  omega
/-- Behind some of the row. -/
def DrI (w w2 wr : World) (B T r : Nat) (v : Value) (l : List Opn) (Q : Opn → Bool) (i : Nat) : Prop :=
  ∃ v' M', RfH wr B T r M' v' ∧ Chg w2 wr (fun k => k = T) ∧ (∀ k, v'.ownBlock = some k → v.ownBlock = some k ∨ w.heap.size ≤ k) ∧ ((l.take i).filter (fun x => !Q x) ++ l.drop i).Perm M'
set_option maxRecDepth 100000 in
set_option maxHeartbeats 8000000 in
theorem lw_drop {B T r : Nat} {l M : List Opn} {v : Value} (w : World) (h : RfH w B T r M v) (hA : AscK l) (hp : l.Perm M) (hl : M.length ≤ 1000) (n : Int) :
    Calls Try.prog 43 #[.pointer (some ⟨T, 0, none⟩), .int .i64 n] w fun e w' => e = .returned (.int .i64 ((l.filter fun x => decide (x.s ≤ n)).length : Int)) ∧ ∃ M', (l.filter fun x => !decide (x.s ≤ n)).Perm M' ∧ RfZ w B T r v M' w' := by
  have mixed : Try.prog.follows .mixedOrders = true := by kernel_rfl
  obtain ⟨Q, hQ⟩ : ∃ Q : Opn → Bool, Q = fun x => decide (x.s ≤ n) := ⟨_, rfl⟩
  obtain ⟨m, hm⟩ : ∃ m, m = l.length := ⟨_, rfl⟩
  have HALL : Hid (Calls Try.prog 50 #[.pointer (some ⟨T, 0, none⟩)] w fun e w2 => ∃ a c, e = .returned (.slice a m c) ∧ DrI w w2 w2 B T r v l Q 0 ∧ Below w.heap.size w w2 ∧ ∀ V, Chg w2 V (fun k => k = T) → RdP V a m l) := (rf_all w h hA hp (by omega)).mono fun e w2 q => by
    obtain ⟨a, c, rfl, q1, q2⟩ := q
    rw [← hm] at q1
    refine ⟨a, c, by rw [hm], ⟨v, M, h.later q2, cg_refl w2 _, fun k hk => .inl hk, by simpa using hp⟩, q2, fun V hV => ?_⟩
    have q3 := cg_own hV q1 (fun k hk q => by have := (q1.lt k hk).1; have := (Array.getElem?_eq_some_iff.1 h.box).1; omega)
    obtain ⟨a9, c9, e9, _, _, r9, _⟩ := rdP_own q3
    cases e9
    exact r9
  have hm1 : m ≤ 1000 := by have := hp.length_eq; omega
  have HLN : Hid (m = l.length) := hm
  have HAS : Hid (AscK l) := hA
  have HFN : Hid (∀ w2 wr, Below w.heap.size w w2 → DrI w w2 wr B T r v l Q m → ∃ M', (l.filter fun x => !Q x).Perm M' ∧ RfZ w B T r v M' wr) := fun w2 wr hb q => by
    obtain ⟨v', M', q1, q2, q3, q4⟩ := q
    rw [List.take_of_length_le (by omega), List.drop_of_length_le (by omega), List.append_nil] at q4
    exact ⟨M', q4, v', q1, cg_trans (cg_below hb (fun k => k = T)) q2 (fun _ _ z => z), q3⟩
  have HCN : Hid (∀ i, i < m → ((l.take (i + 1)).filter Q).length = ((l.take i).filter Q).length + (if Q (l.getD i op0) = true then 1 else 0)) := fun i hi => drop_cnt l Q i (by omega)
  have HQP : Hid (∀ x, Q x = decide (x.s ≤ n)) := fun x => by rw [hQ]
  have HQ0 : Hid (Q = fun x => decide (x.s ≤ n)) := hQ
  clear h hA hp hl hm hQ
  show Calls _ _ _ _ _
  rw [← HQ0.out, show (fun x : Opn => !decide (x.s ≤ n)) = (fun x => !Q x) from funext fun x => by rw [HQP.out]]
  go_enter Try.func43, Try.ntmps43
  go_upto_region 4 with (go_at_call 50; refine HALL.out.mono ?_; rintro e w2 ⟨a, c, rfl, g1, g2, g3⟩; have HD0 : Hid (DrI w w2 w2 B T r v l Q 0) := g1; have HBW : Hid (Below w.heap.size w w2) := g2; have HAR : Hid (∀ V, Chg w2 V (fun k => k = T) → RdP V a m l) := g3; clear g1 g2 g3)
  clear HALL
  go_loopw [6, 7] (fun x6 x7 wr => ∃ (i k : Nat), x7 = .int .i64 (i : Int) ∧ x6 = .int .i64 (k : Int) ∧ i ≤ m ∧ k ≤ i ∧ k = ((l.take i).filter Q).length ∧ DrI w w2 wr B T r v l Q i) (fun _ x7 _ => m - (RowKit.intOf x7).toNat)
  case atStart => exact ⟨0, 0, rfl, rfl, by omega, by omega, by simp, HD0.out⟩
  case round =>
    clear HD0
    obtain ⟨i, k, h7, h6, hi, hki, hk, hd⟩ := hrel
    subst h7 h6
    have HD : Hid (DrI w w2 wr B T r v l Q i) := hd
    have hcg : Chg w2 wr (fun k => k = T) := by obtain ⟨v', M', _, q2, _⟩ := hd; exact q2
    have HCG : Hid (Chg w2 wr (fun k => k = T)) := hcg
    clear hd hcg
    by_cases hlt : i < m
    · obtain ⟨b, off, rfl, c0, c1, c2, c3, c4, c5, c6⟩ := (HAR.out wr HCG.out).at i hlt
      have hcn := HCN.out i hlt
      rw [← hk] at hcn
      obtain ⟨E, hE⟩ : ∃ E, l.getD i op0 = E := ⟨_, rfl⟩
      have HE : Hid (l.getD i op0 = E) := hE
      rw [hE] at c0 c1 c2 c3 c4 c5 c6 hcn
      have hi0 : (0 : Int) ≤ (i : Int) := by omega
      have hi1 : (i : Int) < (m : Int) := by omega
      clear hE hk
      by_cases hq : E.s ≤ n
      · have hqd : decide (E.s ≤ n) = true := decide_eq_true hq
        rw [if_pos (by rw [HQP.out]; exact hqd)] at hcn
        have HCK : Hid (k + 1 = ((l.take (i + 1)).filter Q).length) := hcn.symm
        obtain ⟨v', M', q1, q2, q3, q4⟩ := HD.out
        have hM' : M'.length ≤ 100000 := by
          have h1 := q4.length_eq
          rw [List.length_append, List.length_drop] at h1
          have h2 := List.length_filter_le (fun x => !Q x) (l.take i)
          rw [List.length_take] at h2
          have := HLN.out
          omega
        have HREM : Hid (Calls Try.prog 88 #[.pointer (some ⟨T, 0, none⟩), .int .i64 E.a, .int .i64 E.s] wr.drew fun e w' => e = .returned (.tuple #[]) ∧ RfQ wr.drew B T r (remK M' E.a E.s) w') := rf_rem wr.drew (q1.later (Below.refl _ wr).drew) hM' E.a E.s
        have HS4 : Hid (∀ V, RfQ wr.drew B T r (remK M' E.a E.s) V → V.cell? ⟨b, off + i * 7 + 1, none⟩ = some (.int .i64 E.a) ∧ V.cell? ⟨b, off + i * 7 + 2, none⟩ = some (.int .i64 E.s)) := fun V hq => by
          obtain ⟨v'', _, hc, _⟩ := hq
          obtain ⟨b1, o1, h1, _, d1, d2, _⟩ := (HAR.out V (cg_trans HCG.out hc (fun _ _ z => z))).at i hlt
          cases h1
          rw [HE.out] at d1 d2
          exact ⟨d1, d2⟩
        have HNX : Hid (∀ V, RfQ wr.drew B T r (remK M' E.a E.s) V → DrI w w2 V B T r v l Q (i + 1)) := fun V hq => by
          obtain ⟨v'', z1, z2, z3⟩ := hq
          refine ⟨v'', _, z1, cg_trans q2 z2 (fun _ _ z => z), fun k hk => .inr ?_, ?_⟩
          · have h1 := z3 k hk
            have h2 : w2.heap.size ≤ wr.heap.size := q2.2.2.2.1
            have h3 := HBW.out.size
            have h4 : wr.drew.heap.size = wr.heap.size := rfl
            omega
          · have h5 := drop_yes HAS.out Q i (by rw [← HLN.out]; exact hlt) (by rw [HE.out, HQP.out]; exact hqd)
            rw [HE.out] at h5
            rw [← h5]
            exact q4.filter _
        clear q1 q2 q3 q4 hM' hcn HD hq
        go_upto_region 7 with fail
        refine wp_region_noPanic ?_
        refine wp_region_held_drew (S := (fun w' => w'.cell? ⟨b, off + i * 7 + 1, none⟩ = some (.int .i64 E.a) ∧ w'.cell? ⟨b, off + i * 7 + 2, none⟩ = some (.int .i64 E.s))) (by kernel_rfl) (⟨c1, c2⟩) (fun hHeld => ?_)
        refine wpAnyH_take (i := 0) (v := ?_) rfl (by kernel_rfl) (by kernel_rfl) (by kernel_rfl) (fun _ _ _ h => h) (Or.inl ⟨by rfl, ?_⟩) (by assumption) ?_
        rotate_left
        · intro W' hSw; obtain ⟨s1, s2⟩ := hSw; go_simp; try with_reducible rfl
        try simp only [Act.put, List.getElem_toArray, List.getElem_cons_succ, List.getElem_cons_zero, List.setIfInBounds_toArray, List.set_cons_zero, List.set_cons_succ]
        refine wpAnyH_take (i := 1) (v := ?_) rfl (by kernel_rfl) (by kernel_rfl) (by kernel_rfl) (fun _ _ _ h => h) (Or.inl ⟨by rfl, ?_⟩) (by assumption) ?_
        rotate_left
        · intro W' hSw; obtain ⟨s1, s2⟩ := hSw; go_simp; try with_reducible rfl
        try simp only [Act.put, List.getElem_toArray, List.getElem_cons_succ, List.getElem_cons_zero, List.setIfInBounds_toArray, List.set_cons_zero, List.set_cons_succ]
        refine wpAnyH_take (i := 2) (v := ?_) rfl (by kernel_rfl) (by kernel_rfl) (by kernel_rfl) (fun _ _ _ h => h) (Or.inl ⟨by rfl, ?_⟩) (by assumption) ?_
        rotate_left
        · intro W' hSw; obtain ⟨s1, s2⟩ := hSw; go_simp; try with_reducible rfl
        try simp only [Act.put, List.getElem_toArray, List.getElem_cons_succ, List.getElem_cons_zero, List.setIfInBounds_toArray, List.set_cons_zero, List.set_cons_succ]
        refine wpAnyH_take (i := 3) (v := ?_) rfl (by kernel_rfl) (by kernel_rfl) (by kernel_rfl) (fun _ _ _ h => h) (Or.inl ⟨by rfl, ?_⟩) (by assumption) ?_
        rotate_left
        · intro W' hSw; obtain ⟨s1, s2⟩ := hSw; go_simp; try with_reducible rfl
        try simp only [Act.put, List.getElem_toArray, List.getElem_cons_succ, List.getElem_cons_zero, List.setIfInBounds_toArray, List.set_cons_zero, List.set_cons_succ]
        refine wpAnyH_take (i := 4) (v := ?_) rfl (by kernel_rfl) (by kernel_rfl) (by kernel_rfl) (fun _ _ _ h => h) (Or.inl ⟨by rfl, ?_⟩) (by assumption) ?_
        rotate_left
        · intro W' hSw; obtain ⟨s1, s2⟩ := hSw; go_simp; try with_reducible rfl
        try simp only [Act.put, List.getElem_toArray, List.getElem_cons_succ, List.getElem_cons_zero, List.setIfInBounds_toArray, List.set_cons_zero, List.set_cons_succ]
        refine wpAnyH_take (i := 5) (v := ?_) rfl (by kernel_rfl) (by kernel_rfl) (by kernel_rfl) (fun _ _ _ h => h) (Or.inl ⟨by rfl, ?_⟩) (by assumption) ?_
        rotate_left
        · intro W' hSw; obtain ⟨s1, s2⟩ := hSw; go_simp; try with_reducible rfl
        try simp only [Act.put, List.getElem_toArray, List.getElem_cons_succ, List.getElem_cons_zero, List.setIfInBounds_toArray, List.set_cons_zero, List.set_cons_succ]
        refine wpAnyH_take (i := 6) (v := ?_) rfl (by kernel_rfl) (by kernel_rfl) (by kernel_rfl) (fun _ _ _ h => h) (Or.inl ⟨by rfl, ?_⟩) (by assumption) ?_
        rotate_left
        · intro W' hSw; obtain ⟨s1, s2⟩ := hSw; go_simp; try with_reducible rfl
        try simp only [Act.put, List.getElem_toArray, List.getElem_cons_succ, List.getElem_cons_zero, List.setIfInBounds_toArray, List.set_cons_zero, List.set_cons_succ]
        refine wpAnyH_take (i := 7) (v := ?_) rfl (by kernel_rfl) (by kernel_rfl) (by kernel_rfl) (fun _ _ _ h => h) (Or.inl ⟨by rfl, ?_⟩) (by assumption) ?_
        rotate_left
        · intro W' hSw; obtain ⟨s1, s2⟩ := hSw; go_simp; try with_reducible rfl
        try simp only [Act.put, List.getElem_toArray, List.getElem_cons_succ, List.getElem_cons_zero, List.setIfInBounds_toArray, List.set_cons_zero, List.set_cons_succ]
        refine wpAnyH_take (i := 8) (v := ?_) rfl (by kernel_rfl) (by kernel_rfl) (by kernel_rfl) (fun _ _ _ h => h) (Or.inl ⟨by rfl, ?_⟩) (by assumption) ?_
        rotate_left
        · intro W' hSw; obtain ⟨s1, s2⟩ := hSw; go_simp; try with_reducible rfl
        try simp only [Act.put, List.getElem_toArray, List.getElem_cons_succ, List.getElem_cons_zero, List.setIfInBounds_toArray, List.set_cons_zero, List.set_cons_succ]
        refine wpAnyH_take (i := 9) (v := ?_) rfl (by kernel_rfl) (by kernel_rfl) (by kernel_rfl) (fun _ _ _ h => h) (Or.inl ⟨by rfl, ?_⟩) (by assumption) ?_
        rotate_left
        · intro W' hSw; obtain ⟨s1, s2⟩ := hSw; go_simp; try with_reducible rfl
        try simp only [Act.put, List.getElem_toArray, List.getElem_cons_succ, List.getElem_cons_zero, List.setIfInBounds_toArray, List.set_cons_zero, List.set_cons_succ]
        refine wpAnyH_take (i := 10) (v := ?_) rfl (by kernel_rfl) (by kernel_rfl) (by kernel_rfl) (fun _ _ _ h => h) (Or.inl ⟨by rfl, ?_⟩) (by assumption) ?_
        rotate_left
        · intro W' hSw; obtain ⟨s1, s2⟩ := hSw; go_simp; try with_reducible rfl
        try simp only [Act.put, List.getElem_toArray, List.getElem_cons_succ, List.getElem_cons_zero, List.setIfInBounds_toArray, List.set_cons_zero, List.set_cons_succ]
        refine wpAnyH_take (i := 11) (v := ?_) rfl (by kernel_rfl) (by kernel_rfl) (by kernel_rfl) (fun _ _ _ h => h) (Or.inl ⟨by rfl, ?_⟩) (by assumption) ?_
        rotate_left
        · intro W' hSw; obtain ⟨s1, s2⟩ := hSw; go_simp; try with_reducible rfl
        try simp only [Act.put, List.getElem_toArray, List.getElem_cons_succ, List.getElem_cons_zero, List.setIfInBounds_toArray, List.set_cons_zero, List.set_cons_succ]
        refine wpAnyH_ready (rs := [12]) (by kernel_rfl) (by simp) ?_
        refine AllReadyH.cons rfl (fun KK hK => ?_) AllReadyH.nil
        go_simp
        refine HREM.out.mono ?_
        rintro e w4 ⟨rfl, hq⟩
        have HQ4 : Hid (RfQ wr.drew B T r (remK M' E.a E.s) w4) := hq
        have hs4 := HS4.out w4 hq
        clear hq
        refine hK.out _ _ hs4 (fun hHeld => ?_)
        clear hK KK
        try simp only [Act.put, List.getElem_toArray, List.getElem_cons_succ, List.getElem_cons_zero, List.setIfInBounds_toArray, List.set_cons_zero, List.set_cons_succ]
        refine wpAnyH_done (by kernel_rfl) ?_ _
        refine NoPanic.normal ?_
        clear hHeld
        go_wp2
        go_roundw
        case rel => exact ⟨i + 1, k + 1, by go_num, by go_num, by omega, by omega, HCK.out, HNX.out _ HQ4.out⟩
        case measure => simp [RowKit.intOf]; omega
      · have hqd : decide (E.s ≤ n) = false := decide_eq_false hq
        rw [if_neg (by rw [HQP.out, hqd]; decide)] at hcn
        have HCK : Hid (k = ((l.take (i + 1)).filter Q).length) := hcn.symm
        have HNX : Hid (DrI w w2 wr B T r v l Q (i + 1)) := by
          have h9 : DrI w w2 wr B T r v l Q (i + 1) := by
            obtain ⟨v', M', q1, q2, q3, q4⟩ := HD.out
            refine ⟨v', M', q1, q2, q3, ?_⟩
            rw [← drop_no l Q i (by rw [← HLN.out]; exact hlt) (by rw [HE.out, HQP.out]; exact hqd)]
            exact q4
          exact h9
        clear hcn HD hq
        go_wp2
        go_roundw
        case rel => exact ⟨i + 1, k, by go_num, rfl, by omega, by omega, HCK.out, HNX.out⟩
        case measure => simp [RowKit.intOf]; omega
    · obtain rfl : m = i := by omega
      have HKL : Hid ((k : Int) = ((l.filter Q).length : Int)) := by
        have h9 : (k : Int) = ((l.filter Q).length : Int) := by rw [hk, List.take_of_length_le (by have := HLN.out; omega)]
        exact h9
      have HEND : Hid (∃ M', (l.filter fun x => !Q x).Perm M' ∧ RfZ w B T r v M' wr) := HFN.out _ _ HBW.out HD.out
      clear hk HD
      go_wp2
      go_ret
      exact ⟨by rw [HKL.out]; rfl, HEND.out⟩
theorem hp_ldrop {w V : World} {P r T : Nat} {l l' M : List Opn} {bs : Nat → Prop} (h : HpS w V P r T l' M bs) (hA : AscK l) (hp : l.Perm M) (hl : M.length ≤ 1000) (n : Int) :
    Calls Try.prog 43 #[.pointer (some ⟨T, 0, none⟩), .int .i64 n] V fun e w' => e = .returned (.int .i64 ((l.filter fun x => decide (x.s ≤ n)).length : Int)) ∧ ∃ M', (l.filter fun x => !decide (x.s ≤ n)).Perm M' ∧ HpS w w' P r T l' M' bs ∧ ∀ k, bs k → w'.heap[k]? = V.heap[k]? := by
  obtain ⟨v, h1, h2, h3⟩ := h
  refine (lw_drop V h2 hA hp hl n).mono fun e w' q => ?_
  obtain ⟨rfl, M', q1, q2⟩ := q
  exact ⟨rfl, M', q1, hp_rfz h1 h2 h3 q2⟩
end Go.Proofs.Ytcbnmahbdcjamaa
