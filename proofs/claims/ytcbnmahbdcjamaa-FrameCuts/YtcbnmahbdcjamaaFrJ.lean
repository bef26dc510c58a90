/- The walks of frame's list, at entries and at operations. -/
import Derived.Test.YtcbnmahbdcjamaaFrI
import Derived.Test.YtcbnmahbdcjamaaIdD
namespace Go.Proofs.Ytcbnmahbdcjamaa
open Go.RowKit
set_option linter.unusedVariables false
set_option linter.unusedSimpArgs false

theorem infoE15 : (Try.prog.info? 107).map (fun i => (i.zero, i.size, i.bytes)) = some (some (.agg #[.int .i64 0, .int .i64 0]), 2, 16) := by kernel_rfl
theorem infoP15 : (Try.prog.info? 34).map (fun i => (i.zero, i.size, i.bytes)) = some (some op0.val, 7, 56) := by kernel_rfl
theorem listT_snoc {α : Type} (item : List Int → Option (α × List Int)) : (k : Nat) → (s : List Int) → (l : List α) → (t : List Int) → listT item k s = some (l, t) →
    (item t = none → listT item (k + 1) s = none) ∧ ∀ x u, item t = some (x, u) → listT item (k + 1) s = some (l ++ [x], u)
  | 0, s, l, t, h => by
    cases h
    refine ⟨fun h => ?_, fun x u h => ?_⟩
    · rw [listT, h]
    · rw [listT, h]; rfl
  | k + 1, s, l, t, h => by
    rw [listT] at h
    cases h1 : item s with
    | none => rw [h1] at h; cases h
    | some p =>
      obtain ⟨y, s1⟩ := p
      rw [h1] at h
      simp only at h
      cases h2 : listT item k s1 with
      | none => rw [h2] at h; cases h
      | some q =>
        obtain ⟨m, s2⟩ := q
        rw [h2] at h
        cases h
        have ih := listT_snoc item k s1 m t h2
        refine ⟨fun h => ?_, fun x u h => ?_⟩
        · rw [listT, h1]; simp only; rw [ih.1 h]
        · rw [listT, h1]; simp only; rw [ih.2 x u h]; rfl
theorem listT_none {α : Type} (item : List Int → Option (α × List Int)) : (d k : Nat) → (s : List Int) → listT item k s = none → listT item (k + d) s = none
  | 0, k, s, h => h
  | d + 1, 0, s, h => by cases h
  | d + 1, k + 1, s, h => by
    rw [show k + 1 + (d + 1) = (k + (d + 1)) + 1 by omega, listT]
    rw [listT] at h
    cases h1 : item s with
    | none => rfl
    | some p =>
      obtain ⟨y, s1⟩ := p
      rw [h1] at h
      simp only at h
      cases h2 : listT item k s1 with
      | none => simp only; rw [listT_none item (d + 1) k s1 h2]
      | some q => rw [h2] at h; cases h
theorem RdrA.cg2 {w W : World} {R K : Nat} {s : List Int} {Q : Nat → Prop} (h : RdrA w R K s) (hc : Chg w W Q) (hR : ¬ Q R) (hK : ¬ Q K) : RdrA W R K s := by
  obtain ⟨h1, h2, a, c, h3, h4, h5, h6⟩ := h
  exact ⟨h1, h2, a, c, cg_heap hc h3 hR, rd_cg h4 hc (fun b off e hp => by have := h6 _ e; simp only at this; rw [this]; exact hK), h5, h6⟩
/-- A number, and so many items. -/
def lisT {α : Type} (item : List Int → Option (α × List Int)) (s : List Int) : Option (List α × List Int) := match nuT s with
  | none => none
  | some (n, s1) => listT item n.toNat s1
theorem frT_as (s : List Int) : frT s = match nuT s with
  | none => none
  | some (k, s1) => match nuT s1 with
    | none => none
    | some (g, s2) => match lisT idT s2 with
      | none => none
      | some (v, s4) => match lisT opT s4 with
        | none => none
        | some (o, s6) => match nuT s6 with
          | none => none
          | some (x, s7) => some (⟨k, g, v, o, x⟩, s7) := by
  unfold frT lisT
  cases nuT s with
  | none => rfl
  | some p =>
    obtain ⟨k, s1⟩ := p
    simp only
    cases nuT s1 with
    | none => rfl
    | some p =>
      obtain ⟨g, s2⟩ := p
      simp only
      cases nuT s2 with
      | none => rfl
      | some p =>
        obtain ⟨n, s3⟩ := p
        simp only
        cases listT idT n.toNat s3 with
        | none => rfl
        | some p =>
          obtain ⟨v, s4⟩ := p
          simp only
          cases nuT s4 with
          | none => rfl
          | some p =>
            obtain ⟨m, s5⟩ := p
            rfl
/-- What list leaves. -/
def LisQ (x : Option (List (Int × Int) × List Int)) (R K : Nat) (w : World) (e : Ending) (w' : World) : Prop :=
  Chg w w' (fun k => k = R) ∧ (x = none → e = pnk) ∧ ∀ l r, x = some (l, r) → ∃ v', e = .returned v' ∧ w'.ownsRow w.heap.size 107 2 v' l.length (flatE l) ∧ RdrA w' R K r
set_option maxRecDepth 100000 in
set_option maxHeartbeats 2000000 in
theorem listE_rd (s : List Int) (R K : Nat) (w : World) (hat : RdrA w R K s) (hK : K < w.heap.size) :
    Calls Try.prog 134 #[.func (.func 133) #[.pointer (some ⟨R, 0, none⟩)] #[], .func (.func 135) #[.pointer (some ⟨R, 0, none⟩)] #[]] w fun e w' => LisQ (lisT idT s) R K w e w' := by
  obtain ⟨i0, hi, hz0, hz1, hz2⟩ := info_parts infoE15
  have hRl := rdr_lt hat
  have HRK : Hid (R < w.heap.size ∧ K < w.heap.size) := ⟨hRl, hK⟩
  have HN1 : Hid (Calls Try.prog 133 #[.pointer (some ⟨R, 0, none⟩)] w fun e w' => RdQ ((nuT s).map fun p => (.int .i64 p.1, p.2)) R K w e w') := number_rd s R K w hat
  have hbyt := hat.1
  clear hat hRl hK
  unfold lisT
  cases h1 : nuT s with
  | none =>
    rw [h1] at HN1
    clear h1
    go_enter Try.func134, Try.ntmps134
    go_wp2_with (go_at_call 133; refine HN1.out.mono ?_; rintro e w2 ⟨hc, hp, -⟩; obtain rfl := hp rfl; have HC : Hid (Chg w w2 (fun k => k = R)) := hc; clear hc hp)
    exact ⟨rfl, HC.out, (fun _ => rfl), fun l r h => by cases h⟩
  | some p =>
    obtain ⟨n, s1⟩ := p
    obtain ⟨_, n0, n1, _⟩ := upT_inv _ s hbyt n s1 h1
    rw [h1] at HN1
    obtain ⟨N, rfl⟩ := Int.eq_ofNat_of_zero_le n0
    simp only [Int.toNat_natCast]
    clear h1 hbyt n0
    have hN : N ≤ 4294967295 := by omega
    clear n1
    go_enter Try.func134, Try.ntmps134
    go_wp2_with (go_at_call 133; refine HN1.out.mono ?_; rintro e w2 ⟨hc, -, hp⟩; obtain ⟨rfl, hq⟩ := hp _ _ rfl; have HC2 : Hid (Chg w w2 (fun k => k = R) ∧ RdrA w2 R K s1) := ⟨hc, hq⟩; clear hc hp hq)
    clear HN1
    go_loopw [5, 8] (fun x5 x8 wr => ∃ (k : Nat) (u : Value) (l : List (Int × Int)) (t : List Int), x8 = .int .i64 (k : Int) ∧ x5 = u ∧ k ≤ N ∧ l.length = k ∧ listT idT k s1 = some (l, t) ∧ wr.ownsRow w.heap.size 107 2 u k (flatE l) ∧ Chg w wr (fun k => k = R) ∧ RdrA wr R K t) (fun _ x8 _ => N - (RowKit.intOf x8).toNat)
    case atStart => exact ⟨0, _, [], s1, rfl, rfl, by omega, rfl, rfl, World.ownsRow_nil _ _ _ _, HC2.out.1, HC2.out.2⟩
    case round =>
      obtain ⟨k, u, l, t, hx, hx0, hk, hlen, hli, ho, hc, hr⟩ := hrel
      subst hx hx0
      have HLE : Hid (l.length = k) := hlen
      have HLI : Hid (listT idT k s1 = some (l, t)) := hli
      have HO : Hid (wr.ownsRow w.heap.size 107 2 u5 k (flatE l)) := ho
      have HG : Hid (Chg w wr (fun k => k = R) ∧ RdrA wr R K t) := ⟨hc, hr⟩
      clear hlen hli ho hc hr HC2
      by_cases hlt : k < N
      · have HKr : Hid (K < wr.heap.size) := Nat.lt_of_lt_of_le HRK.out.2 HG.out.1.2.2.2.1
        cases h2 : idT t with
        | none =>
          have H2 : Hid (idT t = none) := h2
          clear h2
          go_wp2_with (go_at_call 135; refine (entry_rd t R K _ HG.out.2 HKr.out).mono ?_; rw [H2.out]; rintro e w3 ⟨hc, hp, -⟩; obtain rfl := hp rfl; have HC3 : Hid (Chg wr w3 (fun k => k = R)) := hc; clear hc hp)
          refine ⟨rfl, cg_trans HG.out.1 HC3.out (fun _ _ h => h), (fun _ => rfl), fun l' r h => ?_⟩
          have hs := (listT_snoc idT k s1 l t HLI.out).1 H2.out
          have := listT_none idT (N - (k + 1)) (k + 1) s1 hs
          rw [show k + 1 + (N - (k + 1)) = N by omega] at this
          rw [this] at h
          cases h
        | some p =>
          obtain ⟨⟨e1, e2⟩, t2⟩ := p
          have H2 : Hid (idT t = some ((e1, e2), t2)) := h2
          clear h2
          go_wp2_with (first
            | (go_at_call 135
               refine (entry_rd t R K _ HG.out.2 HKr.out).mono ?_
               rw [H2.out]
               rintro e w3 ⟨hc, -, hp⟩
               obtain ⟨rfl, hq⟩ := hp _ _ rfl
               have HC3 : Hid (Chg wr w3 (fun k => k = R) ∧ RdrA w3 R K t2) := ⟨hc, hq⟩
               have HO3 : Hid (w3.ownsRow w.heap.size 107 2 u5 k (flatE l)) := cg_own hc HO.out (fun j hj e => by
                 have h9 := (HO.out.lt j hj).1
                 have := HRK.out.1
                 omega)
               have HZ3 : Hid (w.heap.size ≤ w3.heap.size) := Nat.le_trans HG.out.1.2.2.2.1 hc.2.2.2.1
               clear hc hp hq)
            | (at_builtin; refine wpList_append_lies _ rfl (.tmp 10) (.tmp 13) 42 rfl w.heap.size 107 i0 (.agg #[.int .i64 0, .int .i64 0]) 2 16 Try.underlying42 hi hz0 hz1 hz2 rfl (by decide) _ _ _ rfl (HO3.out.alloc _) ⟨_, 0, none⟩ 1 1 [.int .i64 e1, .int .i64 e2] rfl rfl (news_pre (heap_alloc_new _ _) rfl) ?hone (by decide) ?h63 ?hby ?hbase _ rfl ?_))
          case hone => simp [Value.oneCell']
          case h63 => unfold maxLen; omega
          case hby => omega
          case hbase => have := HZ3.out; simp; omega
          intro g cap w4 r1 r2 r3 _
          have HF : Hid (w4.ownsRow w.heap.size 107 2 (.slice (some ⟨g, 0, none⟩) (k + 1) cap) (k + 1) (flatE (l ++ [(e1, e2)])) ∧ Chg w w4 (fun k => k = R) ∧ RdrA w4 R K t2) := by
            have hcgA : Chg w3 (w3.alloc (.cells #[.int .i64 e1, .int .i64 e2] 107)) (fun _ => False) := cg_alloc (cg_refl _ _) _
            have hown : ∀ j, u5.ownBlock = some j → w.heap.size ≤ j := fun j hj => (HO3.out.lt j hj).1
            refine ⟨?_, ?_, ?_⟩
            · have e : flatE (l ++ [(e1, e2)]) = flatE l ++ [.int .i64 e1, .int .i64 e2] := by simp [flatE, encE]
              rw [e]; exact r1
            · have q1 := cg_trans HG.out.1 HC3.out.1 (fun _ _ h => h)
              have q2 := cg_trans q1 hcgA (fun _ _ h => h.elim)
              exact cg_trans q2 (cg_gb r2) (fun j hj h => by have := hown j h; omega)
            · exact (HC3.out.2.cg hcgA (fun _ _ h => h)).cg2 (cg_gb r2) (fun h => by have := hown _ h; have := HRK.out.1; omega) (fun h => by have := hown _ h; have := HRK.out.2; omega)
          clear r1 r2 r3
          go_wp2
          go_roundw
          case rel => exact ⟨k + 1, _, l ++ [(e1, e2)], t2, by go_num, rfl, by omega, by rw [List.length_append, HLE.out]; rfl, (listT_snoc idT k s1 l t HLI.out).2 _ _ H2.out, HF.out⟩
          case measure => simp [RowKit.intOf]; omega
      · obtain rfl : k = N := by omega
        go_wp2
        go_ret
        refine ⟨HG.out.1, (fun h => by rw [HLI.out] at h; cases h), fun l' r h => ?_⟩
        rw [HLI.out] at h
        cases h
        exact ⟨_, rfl, by rw [HLE.out]; exact HO.out, HG.out.2⟩
/-- What list leaves. -/
def LisP (x : Option (List Opn × List Int)) (R K : Nat) (w : World) (e : Ending) (w' : World) : Prop :=
  Chg w w' (fun k => k = R) ∧ (x = none → e = pnk) ∧ ∀ l r, x = some (l, r) → ∃ v', e = .returned v' ∧ w'.ownsRow w.heap.size 34 7 v' l.length (flatP l) ∧ RdrA w' R K r
set_option maxRecDepth 100000 in
set_option maxHeartbeats 2000000 in
theorem listP_rd (s : List Int) (R K : Nat) (w : World) (hat : RdrA w R K s) (hK : K < w.heap.size) :
    Calls Try.prog 136 #[.func (.func 133) #[.pointer (some ⟨R, 0, none⟩)] #[], .func (.func 137) #[.pointer (some ⟨R, 0, none⟩)] #[]] w fun e w' => LisP (lisT opT s) R K w e w' := by
  obtain ⟨i0, hi, hz0, hz1, hz2⟩ := info_parts infoP15
  have hRl := rdr_lt hat
  have HRK : Hid (R < w.heap.size ∧ K < w.heap.size) := ⟨hRl, hK⟩
  have HN1 : Hid (Calls Try.prog 133 #[.pointer (some ⟨R, 0, none⟩)] w fun e w' => RdQ ((nuT s).map fun p => (.int .i64 p.1, p.2)) R K w e w') := number_rd s R K w hat
  have hbyt := hat.1
  clear hat hRl hK
  unfold lisT
  cases h1 : nuT s with
  | none =>
    rw [h1] at HN1
    clear h1
    go_enter Try.func136, Try.ntmps136
    go_wp2_with (go_at_call 133; refine HN1.out.mono ?_; rintro e w2 ⟨hc, hp, -⟩; obtain rfl := hp rfl; have HC : Hid (Chg w w2 (fun k => k = R)) := hc; clear hc hp)
    exact ⟨rfl, HC.out, (fun _ => rfl), fun l r h => by cases h⟩
  | some p =>
    obtain ⟨n, s1⟩ := p
    obtain ⟨_, n0, n1, _⟩ := upT_inv _ s hbyt n s1 h1
    rw [h1] at HN1
    obtain ⟨N, rfl⟩ := Int.eq_ofNat_of_zero_le n0
    simp only [Int.toNat_natCast]
    clear h1 hbyt n0
    have hN : N ≤ 4294967295 := by omega
    clear n1
    go_enter Try.func136, Try.ntmps136
    go_wp2_with (go_at_call 133; refine HN1.out.mono ?_; rintro e w2 ⟨hc, -, hp⟩; obtain ⟨rfl, hq⟩ := hp _ _ rfl; have HC2 : Hid (Chg w w2 (fun k => k = R) ∧ RdrA w2 R K s1) := ⟨hc, hq⟩; clear hc hp hq)
    clear HN1
    go_loopw [5, 8] (fun x5 x8 wr => ∃ (k : Nat) (u : Value) (l : List Opn) (t : List Int), x8 = .int .i64 (k : Int) ∧ x5 = u ∧ k ≤ N ∧ l.length = k ∧ listT opT k s1 = some (l, t) ∧ wr.ownsRow w.heap.size 34 7 u k (flatP l) ∧ Chg w wr (fun k => k = R) ∧ RdrA wr R K t) (fun _ x8 _ => N - (RowKit.intOf x8).toNat)
    case atStart => exact ⟨0, _, [], s1, rfl, rfl, by omega, rfl, rfl, World.ownsRow_nil _ _ _ _, HC2.out.1, HC2.out.2⟩
    case round =>
      obtain ⟨k, u, l, t, hx, hx0, hk, hlen, hli, ho, hc, hr⟩ := hrel
      subst hx hx0
      have HLE : Hid (l.length = k) := hlen
      have HLI : Hid (listT opT k s1 = some (l, t)) := hli
      have HO : Hid (wr.ownsRow w.heap.size 34 7 u5 k (flatP l)) := ho
      have HG : Hid (Chg w wr (fun k => k = R) ∧ RdrA wr R K t) := ⟨hc, hr⟩
      clear hlen hli ho hc hr HC2
      by_cases hlt : k < N
      · have HKr : Hid (K < wr.heap.size) := Nat.lt_of_lt_of_le HRK.out.2 HG.out.1.2.2.2.1
        cases h2 : opT t with
        | none =>
          have H2 : Hid (opT t = none) := h2
          clear h2
          go_wp2_with (go_at_call 137; refine (op_rd t R K _ HG.out.2 HKr.out).mono ?_; rw [H2.out]; rintro e w3 ⟨hc, hp, -⟩; obtain rfl := hp rfl; have HC3 : Hid (Chg wr w3 (fun k => k = R)) := hc; clear hc hp)
          refine ⟨rfl, cg_trans HG.out.1 HC3.out (fun _ _ h => h), (fun _ => rfl), fun l' r h => ?_⟩
          have hs := (listT_snoc opT k s1 l t HLI.out).1 H2.out
          have := listT_none opT (N - (k + 1)) (k + 1) s1 hs
          rw [show k + 1 + (N - (k + 1)) = N by omega] at this
          rw [this] at h
          cases h
        | some p =>
          obtain ⟨E, t2⟩ := p
          have H2 : Hid (opT t = some (E, t2)) := h2
          clear h2
          go_wp2_with (first
            | (go_at_call 137
               refine (op_rd t R K _ HG.out.2 HKr.out).mono ?_
               rw [H2.out]
               rintro e w3 ⟨hc, -, hp⟩
               obtain ⟨rfl, hq⟩ := hp _ _ rfl
               have HC3 : Hid (Chg wr w3 (fun k => k = R) ∧ RdrA w3 R K t2) := ⟨hc, hq⟩
               have HO3 : Hid (w3.ownsRow w.heap.size 34 7 u5 k (flatP l)) := cg_own hc HO.out (fun j hj e => by
                 have h9 := (HO.out.lt j hj).1
                 have := HRK.out.1
                 omega)
               have HZ3 : Hid (w.heap.size ≤ w3.heap.size) := Nat.le_trans HG.out.1.2.2.2.1 hc.2.2.2.1
               clear hc hp hq)
            | (at_builtin; refine wpList_append_lies _ rfl (.tmp 10) (.tmp 13) 22 rfl w.heap.size 34 i0 (op0.val) 7 56 Try.underlying22 hi hz0 hz1 hz2 rfl (by decide) _ _ _ rfl (HO3.out.alloc _) ⟨_, 0, none⟩ 1 1 [.int .i64 E.c, .int .i64 E.a, .int .i64 E.s, .bool E.ins, .int .i64 E.rc, .int .i64 E.ra, .int .i32 E.ch] rfl rfl (news_pre (heap_alloc_new _ _) rfl) ?hone (by decide) ?h63 ?hby ?hbase _ rfl ?_))
          case hone => simp [Value.oneCell']
          case h63 => unfold maxLen; omega
          case hby => omega
          case hbase => have := HZ3.out; simp; omega
          intro g cap w4 r1 r2 r3 _
          have HF : Hid (w4.ownsRow w.heap.size 34 7 (.slice (some ⟨g, 0, none⟩) (k + 1) cap) (k + 1) (flatP (l ++ [E])) ∧ Chg w w4 (fun k => k = R) ∧ RdrA w4 R K t2) := by
            have hcgA : Chg w3 (w3.alloc (.cells #[.int .i64 E.c, .int .i64 E.a, .int .i64 E.s, .bool E.ins, .int .i64 E.rc, .int .i64 E.ra, .int .i32 E.ch] 34)) (fun _ => False) := cg_alloc (cg_refl _ _) _
            have hown : ∀ j, u5.ownBlock = some j → w.heap.size ≤ j := fun j hj => (HO3.out.lt j hj).1
            refine ⟨?_, ?_, ?_⟩
            · have e : flatP (l ++ [E]) = flatP l ++ [.int .i64 E.c, .int .i64 E.a, .int .i64 E.s, .bool E.ins, .int .i64 E.rc, .int .i64 E.ra, .int .i32 E.ch] := by simp [flatP, encP]
              rw [e]; exact r1
            · have q1 := cg_trans HG.out.1 HC3.out.1 (fun _ _ h => h)
              have q2 := cg_trans q1 hcgA (fun _ _ h => h.elim)
              exact cg_trans q2 (cg_gb r2) (fun j hj h => by have := hown j h; omega)
            · exact (HC3.out.2.cg hcgA (fun _ _ h => h)).cg2 (cg_gb r2) (fun h => by have := hown _ h; have := HRK.out.1; omega) (fun h => by have := hown _ h; have := HRK.out.2; omega)
          clear r1 r2 r3
          go_wp2
          go_roundw
          case rel => exact ⟨k + 1, _, l ++ [E], t2, by go_num, rfl, by omega, by rw [List.length_append, HLE.out]; rfl, (listT_snoc opT k s1 l t HLI.out).2 _ _ H2.out, HF.out⟩
          case measure => simp [RowKit.intOf]; omega
      · obtain rfl : k = N := by omega
        go_wp2
        go_ret
        refine ⟨HG.out.1, (fun h => by rw [HLI.out] at h; cases h), fun l' r h => ?_⟩
        rw [HLI.out] at h
        cases h
        exact ⟨_, rfl, by rw [HLE.out]; exact HO.out, HG.out.2⟩
end Go.Proofs.Ytcbnmahbdcjamaa
