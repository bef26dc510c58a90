/- The walks of the reference's Set and Insert. -/
import Derived.Test.YtpahbofccloeaaaDoorIxR
namespace Go.Proofs.YtpahbofccloeaaaDoor
open Go.RowKit
set_option linter.unusedVariables false
set_option linter.unusedSimpArgs false

/-- What the reference's Set and Insert leave. -/
def RefP (R B : Nat) (u : Value) (M : List Bool) (W w' : World) : Prop := ∃ u', RfAt w' R B u' M ∧ Chg W w' (OwnX R u) ∧ AtX W u.ownBlock u'
theorem rf_set {W : World} {R B g n cap : Nat} {M : List Bool} (h : RfAt W R B (.slice (some ⟨g, 0, none⟩) M.length cap) M) (hn : n < M.length) (b : Bool) : RfAt (W.setCell ⟨g, n, none⟩ (.bool b)) R B (.slice (some ⟨g, 0, none⟩) M.length cap) (M.set n b) := by
  have hgR : R ≠ g := fun e => h.2.2.1 (by rw [e]; rfl)
  refine ⟨cg_heap (cg_set W g n _) h.1 hgR, ?_, h.2.2⟩
  rcases h.2.1.2 with ⟨h0, _⟩ | ⟨g', cap', cur, hv, hb, hg, hnn, hm, hs, ht⟩
  · cases h0
  · cases hv
    rw [List.length_set]
    refine ⟨by simp, .inr ⟨g, cap, _, rfl, hb, heap_setX W g n _ cur _ _ hg, hnn, hm, by simpa using hs, ?_⟩⟩
    rw [Array.toList_setIfInBounds, List.take_set, ht, List.map_set]
set_option maxHeartbeats 1000000 in
theorem refSet_in (R B : Nat) (u : Value) (M : List Bool) (n : Nat) (b : Bool) (W : World) (h : RfAt W R B u M) (hn : n < M.length) (hM : M.length ≤ 100000) :
    Calls Tryd.prog 11 #[.pointer (some ⟨R, 0, none⟩), .int .i64 (n : Int), .bool b] W fun e w' => e = .returned (.bool true) ∧ RefP R B u (M.set n b) W w' := by
  obtain ⟨c0, _⟩ := h.cells
  rcases h.2.1.2 with ⟨_, h0⟩ | ⟨g, cap, cur, rfl, hb, hg, hnn, hm, hs, ht⟩
  · omega
  have hc : W.cell? ⟨g, n, none⟩ = some (.bool (M.getD n false)) := by
    obtain ⟨a', cap', hv, _, _, hr⟩ := rdT_own h.2.1
    cases hv
    obtain ⟨b', off, hab, hc⟩ := hr.at n hn
    cases hab
    rw [Nat.zero_add] at hc
    exact hc
  have hfz : W.frozen? ⟨g, n, none⟩ = false := Lib.frozen_of_heap hg _
  have HF : Hid (RefP R B (.slice (some ⟨g, 0, none⟩) M.length cap) (M.set n b) W (W.setCell ⟨g, n, none⟩ (.bool b))) := ⟨_, rf_set h hn b, cg_trans (cg_refl W _) (cg_set W g n _) (fun k _ e => .inr (by rw [e]; rfl)), fun k hk => .inl hk⟩
  have hd0 : decide ((n : Int) < 0) = false := by apply decide_eq_false; omega
  have hd1 : decide ((M.length : Int) ≤ (n : Int)) = false := by apply decide_eq_false; omega
  have hd2 : decide (M.length ≤ n) = false := by apply decide_eq_false; omega
  have hn0 : (0 : Int) ≤ (n : Int) := by omega
  have hn1 : (n : Int) < (M.length : Int) := by omega
  clear h hb hg hnn hm hs ht hn hM
  generalize M.getD n false = z at hc
  generalize M.length = N at *
  go_enter Tryd.func11, Tryd.ntmps11
  go_wp2
  go_ret
  exact ⟨rfl, HF.out⟩
theorem refSet_out (R B : Nat) (u : Value) (M : List Bool) (n : Int) (b : Bool) (W : World) (h : RfAt W R B u M) (hn : ¬ (0 ≤ n ∧ n < (M.length : Int))) :
    Calls Tryd.prog 11 #[.pointer (some ⟨R, 0, none⟩), .int .i64 n, .bool b] W fun e w' => e = .returned (.bool false) ∧ w' = W := by
  obtain ⟨c0, _⟩ := h.cells
  obtain ⟨sa, cap, rfl, hcap, _⟩ := own_sl h.2.1
  by_cases h0 : n < 0
  · have hd0 : decide (n < 0) = true := by simpa using h0
    clear h hn h0
    generalize M.length = N at *
    go_enter Tryd.func11, Tryd.ntmps11
    go_wp2
    go_ret
    exact ⟨rfl, rfl⟩
  · have hd0 : decide (n < 0) = false := by simpa using h0
    have hd1 : decide ((M.length : Int) ≤ n) = true := by apply decide_eq_true; omega
    clear h hn h0 hcap
    generalize M.length = N at *
    go_enter Tryd.func11, Tryd.ntmps11
    go_wp2
    go_ret
    exact ⟨rfl, rfl⟩
theorem refIns_out (R B : Nat) (u : Value) (M : List Bool) (n : Int) (b : Bool) (W : World) (h : RfAt W R B u M) (hn : ¬ (0 ≤ n ∧ n ≤ (M.length : Int))) :
    Calls Tryd.prog 13 #[.pointer (some ⟨R, 0, none⟩), .int .i64 n, .bool b] W fun e w' => e = .returned (.bool false) ∧ w' = W := by
  obtain ⟨c0, _⟩ := h.cells
  obtain ⟨sa, cap, rfl, hcap, _⟩ := own_sl h.2.1
  by_cases h0 : n < 0
  · have hd0 : decide (n < 0) = true := by simpa using h0
    clear h hn h0
    generalize M.length = N at *
    go_enter Tryd.func13, Tryd.ntmps13
    go_wp2
    go_ret
    exact ⟨rfl, rfl⟩
  · have hd0 : decide (n < 0) = false := by simpa using h0
    have hd1 : decide ((M.length : Int) < n) = true := by apply decide_eq_true; omega
    clear h hn h0 hcap
    generalize M.length = N at *
    go_enter Tryd.func13, Tryd.ntmps13
    go_wp2
    go_ret
    exact ⟨rfl, rfl⟩
theorem wpList_append_src {P : Program} {w : World} {ops : Array Oper} {rest : List Oper} {o : Oper} {a : Act} {Q : Exit → Act → World → Prop} (hgd : o.guard = none) (s x : Operand) (t : TypeId)
    (ho : o.op = .call { callee := .builtin .append, args := #[s, x], argTypes := #[t, t] })
    (base : Nat) (e : TypeId) (i : TypeInfo) (z : Value) (size bytes : Nat) (ht : P.underlying t = some (.slice e)) (hi : P.info? e = some i) (hz : i.zero = some z)
    (hsize : i.size = size) (hby : i.bytes = bytes) (hzs : z.cells.size = size) (hpos : 0 < size)
    (v : Value) (n : Nat) (xs : List Value) (hs : a.eval s = v) (hown : w.ownsRow base e size v n xs)
    (ad : Option Addr) (m c : Nat) (news : List Value) (hx : a.eval x = .slice ad m c) (hsrc : SrcAt w ad m c size news)
    (h63 : n + m ≤ maxLen) (hbytes : (n + m) * bytes ≤ 140737488355328) (hbase : base ≤ w.heap.size)
    (h : ∀ v' w', w'.ownsRow base e size v' (n + m) (xs ++ news) → w.grownBy w' v.ownBlock → wpList P ops Q rest (a.put o.dst v') w') : wpList P ops Q (o :: rest) a w := by
  obtain ⟨s1, s2, s3, s4⟩ := hsrc
  cases ad with
  | none =>
    obtain ⟨rfl, rfl⟩ := s2 rfl
    obtain rfl : news = [] := List.eq_nil_of_length_eq_zero (by simpa using s1)
    exact wpList_append_own_none hgd s x t ho base e i size ht hi v n xs hs hown hx (h v w (by simpa using hown) ⟨rfl, rfl, rfl, Nat.le_refl _, fun _ _ _ => rfl⟩)
  | some x' =>
    exact wpList_append_own _ hgd s x t ho base e i z size bytes ht hi hz hsize hby hzs hpos v n xs hs hown x' m c news hx s1 (s3 x' rfl) s4 h63 hbytes hbase (fun v' w' h1 h2 _ => h v' w' h1 h2)
theorem info_T : (Tryd.prog.info? 4).map (fun i => (i.zero, i.size, i.bytes)) = some (some (.bool false), 1, 1) := by kernel_rfl
theorem cutT_from (g len cap lo : Nat) (h1 : lo ≤ len) (h2 : len ≤ cap) (W : World) : (Instr.slice 27 (.slice (some ⟨g, 0, none⟩) len cap) (some (.int .i64 lo)) none none).run Tryd.prog W = .ok (.slice (some ⟨g, if cap = lo then 0 else lo, none⟩) (len - lo) (cap - lo)) W := by
  have g0 : (0 : Int) ≤ (lo : Int) := by omega
  have g1 : (lo : Int) ≤ (len : Int) := by omega
  by_cases h : cap = lo
  · subst h
    go_simp
  · go_simp
theorem cutT_to (a : Option Addr) (len cap n : Nat) (h : n ≤ cap) (W : World) : (Instr.slice 27 (.slice a len cap) none (some (.int .i64 n)) none).run Tryd.prog W = .ok (.slice a n cap) W := by
  have h0 : (0 : Int) ≤ (n : Int) := by omega
  have h1 : (n : Int) ≤ (cap : Int) := by omega
  go_simp
theorem one_bool (bs : List Bool) : ∀ u ∈ bs.map Value.bool, u.oneCell' = true := by
  intro u hu
  simp only [List.mem_map] at hu
  obtain ⟨b, _, rfl⟩ := hu
  rfl
/-- A part of a row of truths as a source. -/
theorem src_part {W : World} {g off m c : Nat} {bs : List Bool} (hl : bs.length = m) (h : ∀ i, i < m → W.cell? ⟨g, off + i, none⟩ = some (.bool (bs.getD i false))) : SrcAt W (some ⟨g, off, none⟩) m c 1 (bs.map Value.bool) := by
  refine ⟨by simpa using hl, (fun h => by cases h), fun a ha j v hv => ?_, one_bool bs⟩
  cases ha
  have hj : j < bs.length := by
    have := (List.getElem?_eq_some_iff.1 hv).1
    simpa using this
  rw [add_lit, h j (by omega)]
  rw [List.getElem?_map, List.getElem?_eq_getElem hj] at hv
  simp at hv
  simp [hj, hv]
set_option maxHeartbeats 2000000 in
theorem refIns_in (R B : Nat) (u : Value) (M : List Bool) (n : Nat) (b : Bool) (W : World) (h : RfAt W R B u M) (hn : n ≤ M.length) (hM : M.length ≤ 100000) (hBW : B ≤ W.heap.size) :
    Calls Tryd.prog 13 #[.pointer (some ⟨R, 0, none⟩), .int .i64 (n : Int), .bool b] W fun e w' => e = .returned (.bool true) ∧ RefP R B u (ins M n b) W w' := by
  obtain ⟨i0, hi, hz0, hz1, hz2⟩ := info_parts info_T
  have HI : Hid (Tryd.prog.info? 4 = some i0 ∧ i0.zero = some (.bool false) ∧ i0.size = 1 ∧ i0.bytes = 1) := ⟨hi, hz0, hz1, hz2⟩
  obtain ⟨sa, cap, rfl, hcap, hnone, hrd⟩ := rdT_own h.2.1
  have hRW : R < W.heap.size := (Array.getElem?_eq_some_iff.1 h.1).1
  have HC0 : Hid (∀ w', Below W.heap.size W w' → w'.cell? ⟨R, 0, none⟩ = some (.slice sa M.length cap) ∧ w'.frozen? ⟨R, 0, none⟩ = false) := fun w' hb =>
    (h.keep (Q := fun _ => False) (cg_below hb _) (fun _ _ h => h)).cells
  have c0 := (HC0.out W (Below.refl _ W)).1
  have hct1 := cutT_to sa M.length cap n (by omega)
  have HS1 : Hid (∀ w', Below W.heap.size W w' → SrcAt w' sa n cap 1 ((M.take n).map Value.bool)) := by
    intro w' hb
    have hr := hrd.later hb
    cases sa with
    | none =>
      have hc := hnone rfl
      refine ⟨by simp; omega, fun _ => ⟨by omega, hc⟩, (fun a ha => by cases ha), one_bool _⟩
    | some x =>
      rcases Nat.eq_zero_or_pos M.length with h0 | h0
      · have hn0 : n = 0 := by omega
        subst hn0
        exact ⟨by simp, (fun h => by cases h), fun a ha j v hv => by simp at hv, one_bool _⟩
      · obtain ⟨gb, off, hx, hcc⟩ := hr.2 h0
        cases hx
        refine src_part (by rw [List.length_take]; omega) fun i hi => ?_
        rw [hcc i (by omega)]
        simp [List.getD_eq_getElem?_getD, List.getElem?_take, hi]
  obtain ⟨sa2, hct2, HS2⟩ : ∃ sa2, (∀ W : World, (Instr.slice 27 (.slice sa M.length cap) (some (.int .i64 (n : Int))) none none).run Tryd.prog W = .ok (.slice sa2 (M.length - n) (cap - n)) W) ∧ Hid (∀ w', Below W.heap.size W w' → SrcAt w' sa2 (M.length - n) (cap - n) 1 ((M.drop n).map Value.bool)) := by
    rcases h.2.1.2 with ⟨h0, h1⟩ | ⟨g, cap', cur, hv, hb, hg, hnn, hm, hs, ht⟩
    · injection h0 with e1 e2 e3
      subst e1 e3
      have hn0 : n = 0 := by omega
      subst hn0
      have hMn : M = [] := List.eq_nil_of_length_eq_zero h1
      subst hMn
      refine ⟨none, fun W => ?_, fun w' hb => ⟨by simp, fun _ => ⟨rfl, rfl⟩, (fun a ha => by cases ha), one_bool _⟩⟩
      go_simp
    · cases hv
      refine ⟨_, cutT_from g M.length cap n hn hcap, fun w' hb' => ?_⟩
      have hr := hrd.later hb'
      rcases Nat.eq_or_lt_of_le hn with e | hlt
      · refine ⟨by simp, (fun h => by cases h), fun a ha j v hv => ?_, one_bool _⟩
        rw [List.drop_of_length_le (by omega)] at hv
        simp at hv
      · obtain ⟨gb, off, hx, hcc⟩ := hr.2 (by omega)
        cases hx
        rw [if_neg (by omega)]
        refine src_part (by rw [List.length_drop]) fun i hi => ?_
        have := hcc (n + i) (by omega)
        rw [Nat.zero_add] at this
        rw [this]
        simp [List.getD_eq_getElem?_getD, List.getElem?_drop]
  have HFIN : Hid (∀ u' w', w'.ownsRow W.heap.size 4 1 u' (0 + n + 1 + (M.length - n)) ([] ++ (M.take n).map Value.bool ++ [Value.bool b] ++ (M.drop n).map Value.bool) → Below W.heap.size W w' → RefP R B (.slice sa M.length cap) (ins M n b) W (w'.setCell ⟨R, 0, none⟩ u')) := by
    intro u' w' ho hb
    have hc := cg_below hb (fun _ => False)
    have hR := cg_heap hc h.1 (fun h => h)
    have hlen := ins_len M n b hn
    have hne : u'.ownBlock ≠ some R := fun e => by have := (ho.lt R e).1; omega
    refine ⟨u', ⟨?_, ?_, hne, h.2.2.2⟩, cg_trans (cg_trans (Q := OwnX R (.slice sa M.length cap)) (cg_refl W _) hc (fun _ _ h => h.elim)) (cg_set w' R 0 _) (fun k _ e => .inl e), fun k hk => .inr (ho.lt k hk).1⟩
    · rw [heap_setX w' R 0 _ _ _ _ hR]; rfl
    · have e1 : 0 + n + 1 + (M.length - n) = (ins M n b).length := by rw [hlen]; omega
      have e2 : [] ++ (M.take n).map Value.bool ++ [Value.bool b] ++ (M.drop n).map Value.bool = (ins M n b).map Value.bool := by simp [ins]
      rw [e1, e2] at ho
      exact own_base (cg_own (cg_set w' R 0 _) ho (fun k hk e => hne (e ▸ hk))) hBW
  have hd0 : decide ((n : Int) < 0) = false := by apply decide_eq_false; omega
  have hd1 : decide ((M.length : Int) < (n : Int)) = false := by apply decide_eq_false; omega
  have hd2 : decide (M.length < n) = false := by apply decide_eq_false; omega
  have HLL : Hid (n ≤ M.length ∧ M.length ≤ 100000) := ⟨hn, hM⟩
  obtain ⟨W1, hW1⟩ : ∃ W1, W1 = W.alloc (.cells #[] 4) := ⟨_, rfl⟩
  have HO1 : Hid (W1.ownsRow W.heap.size 4 1 (.slice (some ⟨W.heap.size, 0, none⟩) 0 0) 0 []) := by rw [hW1]; exact own_none W.heap.size _ (Nat.le_refl _) W.heap.size rfl
  have HB1 : Hid (Below W.heap.size W W1) := by rw [hW1]; exact (Below.refl _ W).alloc (Nat.le_refl _) _
  have c1 := (HC0.out W1 HB1.out).1
  rw [hW1] at c1
  have HM : Hid (∀ x, x ≤ 200001 → x ≤ maxLen) := fun x hx => by unfold maxLen; omega
  clear h hi hz0 hz1 hz2 hcap hnone hrd hRW hn hM hBW
  generalize M.length = N at *
  go_enter Tryd.func13, Tryd.ntmps13
  go_upto_region 3 with fail
  go_upto_region 4 with (at_builtin; rw [← hW1]; refine wpList_append_src rfl _ _ 27 rfl W.heap.size 4 i0 _ 1 1 Tryd.underlying27 HI.out.1 HI.out.2.1 HI.out.2.2.1 HI.out.2.2.2 rfl (by decide) _ 0 [] rfl HO1.out sa n cap ((M.take n).map Value.bool) rfl (HS1.out _ HB1.out) (HM.out _ (by have := HLL.out; omega)) (by have := HLL.out; omega) HB1.out.size (fun v2 w2 h1 h2 => ?_); have HO2 : Hid (w2.ownsRow W.heap.size 4 1 v2 (0 + n) ([] ++ (M.take n).map Value.bool)) := h1; have HB2 : Hid (Below W.heap.size W w2) := HB1.out.grown h2 HB1.out.size (fun k hk => (HO1.out.lt k hk).1); clear h1 h2)
  obtain ⟨W3, hW3⟩ : ∃ W3, W3 = w2.alloc (.cells #[.bool b] 4) := ⟨_, rfl⟩
  have HO3 : Hid (W3.ownsRow W.heap.size 4 1 v2 (0 + n) ([] ++ (M.take n).map Value.bool)) := by rw [hW3]; exact own_alloc HO2.out _
  have HB3 : Hid (Below W.heap.size W W3) := by rw [hW3]; exact HB2.out.alloc HB2.out.size _
  have HS3 : Hid (SrcAt W3 (some ⟨w2.heap.size, 0, none⟩) 1 1 1 [Value.bool b]) := by
    rw [hW3]
    exact ⟨rfl, (fun h => by cases h), (fun a ha => by cases ha; exact World.news_of_block (fr := (0, 0)) (heap_alloc_new w2 _)), by simp [Value.oneCell']⟩
  clear hW1 c0 c1 hct1 HS1 HO1 HB1 HO2 HB2
  go_upto_region 5 with (at_builtin; rw [← hW3]; refine wpList_append_src rfl _ _ 27 rfl W.heap.size 4 i0 _ 1 1 Tryd.underlying27 HI.out.1 HI.out.2.1 HI.out.2.2.1 HI.out.2.2.2 rfl (by decide) _ (0 + n) _ rfl HO3.out (some ⟨w2.heap.size, 0, none⟩) 1 1 [Value.bool b] rfl HS3.out (HM.out _ (by have := HLL.out; omega)) (by have := HLL.out; omega) HB3.out.size (fun v4 w4 h1 h2 => ?_); have HO4 : Hid (w4.ownsRow W.heap.size 4 1 v4 (0 + n + 1) ([] ++ (M.take n).map Value.bool ++ [Value.bool b])) := h1; have HB4 : Hid (Below W.heap.size W w4) := HB3.out.grown h2 HB3.out.size (fun k hk => (HO3.out.lt k hk).1); clear h1 h2)
  have c4 := (HC0.out w4 HB4.out).1
  clear hW3 HO3 HB3 HS3
  go_wp2_with (at_builtin; refine wpList_append_src rfl _ _ 27 rfl W.heap.size 4 i0 _ 1 1 Tryd.underlying27 HI.out.1 HI.out.2.1 HI.out.2.2.1 HI.out.2.2.2 rfl (by decide) _ (0 + n + 1) _ rfl HO4.out sa2 (N - n) (cap - n) ((M.drop n).map Value.bool) rfl (HS2.out _ HB4.out) (HM.out _ (by have := HLL.out; omega)) (by have := HLL.out; omega) HB4.out.size (fun v5 w5 h1 h2 => ?_); have hb5 : Below W.heap.size W w5 := HB4.out.grown h2 HB4.out.size (fun k hk => (HO4.out.lt k hk).1); obtain ⟨a5, c5, hv5, _, _⟩ := own_sl h1; subst hv5; have c6 := (HC0.out w5 hb5).1; have c7 := (HC0.out w5 hb5).2; have hz := HFIN.out _ w5 h1 hb5; have HZ : Hid (RefP R B (.slice sa N cap) (ins M n b) W (w5.setCell ⟨R, 0, none⟩ (.slice a5 (0 + n + 1 + (N - n)) c5))) := hz; clear hz hb5 h1 h2)
  go_ret
  have hzz := HZ.out
  rw [Nat.zero_add] at hzz
  exact ⟨rfl, hzz⟩
end Go.Proofs.YtpahbofccloeaaaDoor
