/- The walk of frame's Of. -/
import Derived.Test.YtcbnmahbdcjamaaFrL
namespace Go.Proofs.Ytcbnmahbdcjamaa
open Go.RowKit
set_option linter.unusedVariables false
set_option linter.unusedSimpArgs false

/-- What Of leaves. -/
def OfQ (bs : List Int) (w : World) (e : Ending) (w' : World) : Prop :=
  Below w.heap.size w w' ∧ (ofN bs = none → e = .returned (.tuple #[frV 0 0 none 0 0 none 0 0 0, .int .i64 2])) ∧ ∀ f, ofN bs = some f → ∃ v, e = .returned (.tuple #[v, .int .i64 0]) ∧ FrAt w' v f
abbrev FCell (W : World) (F : Nat) : Prop := ∃ f0 f1 f2 f3 f4, W.heap[F]? = some (.cells #[f0, f1, f2, f3, f4] 51)
/-- Where a panic ends. -/
theorem of_panic (bs : List Int) (w W : World) (F E : Nat) (a : Act) (h0 : ofN bs = none) (h2 : a.tmps[2]? = some (.pointer (some ⟨F, 0, none⟩))) (h3 : a.tmps[3]? = some (.pointer (some ⟨E, 0, none⟩)))
    (hd : a.defers = [{ target := .fn (.func 82) #[.pointer (some ⟨F, 0, none⟩), .pointer (some ⟨E, 0, none⟩)], args := #[] }]) (hF : FCell W F) (hE : W.heap[E]? = some (.cells #[.int .i64 0] 28)) (hB : Below w.heap.size w W) (hFs : w.heap.size ≤ F) (hEs : F < E) :
    bodyPostD Try.prog Try.f34 (fun e w' => OfQ bs w e w') (.panic [{ v := .iface 28 (.int .i64 2), recovered := false }]) a W := by
  obtain ⟨f0, f1, f2, f3, f4, hF⟩ := hF
  show Leaves _ _ _ _ _ _ _
  rw [hd]
  refine leaves_cons (f := 82) (args := #[.pointer (some ⟨F, 0, none⟩), .pointer (some ⟨E, 0, none⟩)]) (by simp) (by simp [go_sem]) ?_
  refine (catch_pan F E f0 f1 f2 f3 f4 _ _ _ _ _ (by omega) hF hE).mono ?_
  rintro e u' w'' ⟨rfl, rfl, hc, gF, gE⟩
  have c0 : w''.cell? ⟨F, 0, none⟩ = some (.int .i64 0) := cell_of_row w'' F 0 _ _ _ gF
  have c1 : w''.cell? ⟨F, 1, none⟩ = some (.int .i64 0) := cell_of_row w'' F 1 _ _ _ gF
  have c2 : w''.cell? ⟨F, 2, none⟩ = some (.slice none 0 0) := cell_of_row w'' F 2 _ _ _ gF
  have c3 : w''.cell? ⟨F, 3, none⟩ = some (.slice none 0 0) := cell_of_row w'' F 3 _ _ _ gF
  have c4 : w''.cell? ⟨F, 4, none⟩ = some (.int .i64 0) := cell_of_row w'' F 4 _ _ _ gF
  have ce : w''.cell? ⟨E, 0, none⟩ = some (.int .i64 2) := cell_of_row w'' E 0 _ _ _ gE
  have hbel : Below w.heap.size w w'' := hB.trans (cg_bel hc hB.size (fun k hk => by omega))
  have hfin : OfQ bs w (.returned (.tuple #[frV 0 0 none 0 0 none 0 0 0, .int .i64 2])) w'' := ⟨hbel, (fun _ => rfl), fun f hf => by rw [h0] at hf; cases hf⟩
  simp [Leaves, settle, results, Try.results34, go_sem, h2, h3, c0, c1, c2, c3, c4, ce]
  exact hfin
theorem set5 {w : World} {F E : Nat} {f0 f1 f2 f3 f4 g0 : Value} (hF : w.heap[F]? = some (.cells #[f0, f1, f2, f3, f4] 51)) (hE : w.heap[E]? = some (.cells #[g0] 28)) (v0 v1 v2 v3 v4 : Value) (hFE : F ≠ E) (W : World) (hW : W = (((((w.setCell ⟨F, 0, none⟩ v0).setCell ⟨F, 1, none⟩ v1).setCell ⟨F, 2, none⟩ v2).setCell ⟨F, 3, none⟩ v3).setCell ⟨F, 4, none⟩ v4)) :
    Chg w W (fun k => k = F) ∧ W.heap[F]? = some (.cells #[v0, v1, v2, v3, v4] 51) ∧ W.heap[E]? = some (.cells #[g0] 28) := by
  subst hW
  have q5 : Chg w (((((w.setCell ⟨F, 0, none⟩ v0).setCell ⟨F, 1, none⟩ v1).setCell ⟨F, 2, none⟩ v2).setCell ⟨F, 3, none⟩ v3).setCell ⟨F, 4, none⟩ v4) (fun k => k = F) := cg_trans (cg_trans (cg_trans (cg_trans (cg_set w F 0 v0) (cg_set _ F 1 v1) (fun _ _ h => h)) (cg_set _ F 2 v2) (fun _ _ h => h)) (cg_set _ F 3 v3) (fun _ _ h => h)) (cg_set _ F 4 v4) (fun _ _ h => h)
  have r0 := heap_setX w F 0 v0 _ _ _ hF
  have r1 := heap_setX _ F 1 v1 _ _ _ r0
  have r2 := heap_setX _ F 2 v2 _ _ _ r1
  have r3 := heap_setX _ F 3 v3 _ _ _ r2
  have r4 := heap_setX _ F 4 v4 _ _ _ r3
  exact ⟨q5, r4.trans (by rfl), cg_heap q5 hE (fun e => hFE e.symm)⟩
set_option maxRecDepth 100000 in
set_option maxHeartbeats 8000000 in
theorem frOf_any (bs : List Int) (a : Option Addr) (n c : Nat) (w : World) (hb : Byt bs) (hr : Rd .u8 w a n bs) (hc : n ≤ c) (hn : n ≤ 100000) :
    Calls Try.prog 34 #[.slice a n c] w fun e w' => OfQ bs w e w' := by
  have hmf := mkFunc
  have hlen := hr.1
  obtain ⟨W1, hW1⟩ : ∃ W1, W1 = (w.alloc (.cells #[.int .i64 0, .int .i64 0, .slice none 0 0, .slice none 0 0, .int .i64 0] 51)).alloc (.cells #[.int .i64 0] 28) := ⟨_, rfl⟩
  have hb1 : Below w.heap.size w W1 := by rw [hW1]; exact ((Below.refl _ w).alloc (Nat.le_refl _) _).alloc (by simp) _
  have HO0 : Hid (Calls Try.prog 81 #[.slice a n c] W1 fun e w' => e = .returned (.tuple #[.string (strOfNums (oaN bs).1), .int .i64 (oaN bs).2.1, .bool (oaN bs).2.2]) ∧ Below W1.heap.size W1 w') := open_any bs a n c W1 hb (hr.later hb1) hc (by omega)
  have HB1 : Hid (Below w.heap.size w W1) := hb1
  have HWF : Hid (W1.heap[w.heap.size]? = some (.cells #[.int .i64 0, .int .i64 0, .slice none 0 0, .slice none 0 0, .int .i64 0] 51)) := by
    show _ = _
    rw [hW1]
    exact (((Below.refl _ _).alloc (Nat.le_refl _) _).block w.heap.size (by simp)).trans (heap_alloc_new w _)
  have HWE : Hid (W1.heap[w.heap.size + 1]? = some (.cells #[.int .i64 0] 28)) := by
    show _ = _
    rw [hW1]
    have := heap_alloc_new (w.alloc (.cells #[.int .i64 0, .int .i64 0, .slice none 0 0, .slice none 0 0, .int .i64 0] 51)) (.cells #[.int .i64 0] 28)
    simpa using this
  have HSZ : Hid (W1.heap.size = w.heap.size + 2) := by show _ = _; rw [hW1]; simp
  obtain ⟨E, hE⟩ : ∃ E, E = w.heap.size + 1 := ⟨_, rfl⟩
  obtain ⟨F, hF⟩ : ∃ F, F = w.heap.size := ⟨_, rfl⟩
  have HEE : Hid (E = w.heap.size + 1) := hE
  have HFF : Hid (F = w.heap.size) := hF
  have HFS : Hid (w.heap.size ≤ F) := by show _ ≤ _; omega
  have HES : Hid (F < E) := by show _ < _; omega
  rw [← hE] at HWE
  rw [← hF] at HWF
  have HRD : Hid (∀ W, Below w.heap.size w W → Rd .u8 W a n bs) := fun W h => hr.later h
  have HBY : Hid (Byt bs) := hb
  clear hE hF hb1 hr hb
  cases ho : opnN bs with
  | none =>
    have e : oaN bs = ([], 0, false) := by unfold oaN; rw [ho]
    have HO : Hid (Calls Try.prog 81 #[.slice a n c] W1 fun e w' => e = .returned (.tuple #[.string (strOfNums []), .int .i64 0, .bool false]) ∧ Below W1.heap.size W1 w') := by rw [e] at HO0; exact HO0
    have H0 : Hid (ofN bs = none) := by show _ = _; unfold ofN; rw [ho]
    clear e ho HO0
    go_enter_defers Try.func34, Try.ntmps34
    go_upto_region 1 with fail
    simp only [← hW1, ← HEE.out]
    simp only [← HFF.out]
    clear hW1
    go_upto_region 3 with (go_at_call 81; refine HO.out.mono ?_; rintro e w2 ⟨rfl, hb⟩; have HB2 : Hid (Below W1.heap.size W1 w2) := hb; clear hb)
    refine wp_region_any (by kernel_rfl) ?_
    try (change wpAny _ _ _ _ _ _ _ (World.drew _))
    refine wpAny_take (i := 0) (v := ?_) rfl (by kernel_rfl) (by kernel_rfl) (by kernel_rfl) (fun _ _ _ h => of_put _ _ (by decide) (by decide) _ _ _ h) (Or.inl ⟨by rfl, ?_⟩) ?_
    rotate_left
    · intro W'
      go_simp
      try with_reducible rfl
    go_simp
    refine wpAny_take (i := 1) (v := ?_) rfl (by kernel_rfl) (by kernel_rfl) (by kernel_rfl) (fun _ _ _ h => of_put _ _ (by decide) (by decide) _ _ _ h) (Or.inl ⟨by rfl, ?_⟩) ?_
    rotate_left
    · intro W'
      go_simp
      try with_reducible rfl
    go_simp
    refine wpAny_take (i := 2) (v := undef) rfl (by kernel_rfl) (by kernel_rfl) (by kernel_rfl) (fun _ _ _ h => of_put _ _ (by decide) (by decide) _ _ _ h) (Or.inr ⟨by rfl, by rfl⟩) ?_
    go_simp
    refine wpAny_take (i := 3) (v := undef) rfl (by kernel_rfl) (by kernel_rfl) (by kernel_rfl) (fun _ _ _ h => of_put _ _ (by decide) (by decide) _ _ _ h) (Or.inr ⟨by rfl, by rfl⟩) ?_
    go_simp
    refine wpAny_take (i := 4) (v := undef) rfl (by kernel_rfl) (by kernel_rfl) (by kernel_rfl) (fun _ _ _ h => of_put _ _ (by decide) (by decide) _ _ _ h) (Or.inr ⟨by rfl, by rfl⟩) ?_
    go_simp
    refine wpAny_take (i := 5) (v := undef) rfl (by kernel_rfl) (by kernel_rfl) (by kernel_rfl) (fun _ _ _ h => of_put _ _ (by decide) (by decide) _ _ _ h) (Or.inr ⟨by rfl, by rfl⟩) ?_
    go_simp
    refine wpAny_take (i := 6) (v := ?_) rfl (by kernel_rfl) (by kernel_rfl) (by kernel_rfl) (fun _ _ _ h => of_put _ _ (by decide) (by decide) _ _ _ h) (Or.inl ⟨by rfl, ?_⟩) ?_
    rotate_left
    · intro W'
      go_simp
      try with_reducible rfl
    go_simp
    refine wpAny_take (i := 7) (v := ?_) rfl (by kernel_rfl) (by kernel_rfl) (by kernel_rfl) (fun _ _ _ h => of_put _ _ (by decide) (by decide) _ _ _ h) (Or.inl ⟨by rfl, ?_⟩) ?_
    rotate_left
    · intro W'
      go_simp
      try with_reducible rfl
    go_simp
    refine wpAny_take (i := 8) (v := undef) rfl (by kernel_rfl) (by kernel_rfl) (by kernel_rfl) (fun _ _ _ h => of_put _ _ (by decide) (by decide) _ _ _ h) (Or.inr ⟨by rfl, by rfl⟩) ?_
    go_simp
    refine wpAny_take (i := 9) (v := undef) rfl (by kernel_rfl) (by kernel_rfl) (by kernel_rfl) (fun _ _ _ h => of_put _ _ (by decide) (by decide) _ _ _ h) (Or.inr ⟨by rfl, by rfl⟩) ?_
    go_simp
    refine wpAny_take (i := 10) (v := undef) rfl (by kernel_rfl) (by kernel_rfl) (by kernel_rfl) (fun _ _ _ h => of_put _ _ (by decide) (by decide) _ _ _ h) (Or.inr ⟨by rfl, by rfl⟩) ?_
    go_simp
    refine wpAny_take (i := 11) (v := undef) rfl (by kernel_rfl) (by kernel_rfl) (by kernel_rfl) (fun _ _ _ h => of_put _ _ (by decide) (by decide) _ _ _ h) (Or.inr ⟨by rfl, by rfl⟩) ?_
    go_simp
    refine wpAny_take (i := 12) (v := undef) rfl (by kernel_rfl) (by kernel_rfl) (by kernel_rfl) (fun _ _ _ h => of_put _ _ (by decide) (by decide) _ _ _ h) (Or.inr ⟨by rfl, by rfl⟩) ?_
    go_simp
    refine wpAny_take (i := 13) (v := undef) rfl (by kernel_rfl) (by kernel_rfl) (by kernel_rfl) (fun _ _ _ h => of_put _ _ (by decide) (by decide) _ _ _ h) (Or.inr ⟨by rfl, by rfl⟩) ?_
    go_simp
    refine wpAny_take (i := 14) (v := undef) rfl (by kernel_rfl) (by kernel_rfl) (by kernel_rfl) (fun _ _ _ h => of_put _ _ (by decide) (by decide) _ _ _ h) (Or.inr ⟨by rfl, by rfl⟩) ?_
    go_simp
    refine wpAny_take (i := 15) (v := undef) rfl (by kernel_rfl) (by kernel_rfl) (by kernel_rfl) (fun _ _ _ h => of_put _ _ (by decide) (by decide) _ _ _ h) (Or.inr ⟨by rfl, by rfl⟩) ?_
    go_simp
    refine wpAny_take (i := 16) (v := undef) rfl (by kernel_rfl) (by kernel_rfl) (by kernel_rfl) (fun _ _ _ h => of_put _ _ (by decide) (by decide) _ _ _ h) (Or.inr ⟨by rfl, by rfl⟩) ?_
    go_simp
    refine wpAny_take (i := 17) (v := undef) rfl (by kernel_rfl) (by kernel_rfl) (by kernel_rfl) (fun _ _ _ h => of_put _ _ (by decide) (by decide) _ _ _ h) (Or.inr ⟨by rfl, by rfl⟩) ?_
    go_simp
    refine wpAny_take (i := 18) (v := ?_) rfl (by kernel_rfl) (by kernel_rfl) (by kernel_rfl) (fun _ _ _ h => of_put _ _ (by decide) (by decide) _ _ _ h) (Or.inl ⟨by rfl, ?_⟩) ?_
    rotate_left
    · intro W'
      go_simp
      try with_reducible rfl
    go_simp
    refine wpAny_ready (rs := [19]) (by kernel_rfl) (by simp) ?_
    refine AllReady.cons rfl (fun K hK => ?_) AllReady.nil
    go_simp
    go_wp2_with (go_at_call 83; refine (need_bad _).mono ?_; rintro e w3 ⟨rfl, hw3⟩; obtain rfl := hw3.symm; clear hw3)
    have hbw : Below W1.heap.size W1 w2.drew := HB2.out.drew
    exact of_panic bs w _ F E _ H0.out rfl rfl rfl ⟨_, _, _, _, _, (hbw.block F (by have := HSZ.out; have := HFF.out; omega)).trans HWF.out⟩ ((hbw.block E (by have := HSZ.out; have := HEE.out; omega)).trans HWE.out) (HB1.out.trans (hbw.mono HB1.out.size)) HFS.out HES.out
  | some p =>
    obtain ⟨body, m⟩ := p
    obtain ⟨o1, o2, o3⟩ := opn_some bs body m HBY.out ho
    have e : oaN bs = (body, (m : Int), true) := by unfold oaN; rw [ho]
    have HO : Hid (Calls Try.prog 81 #[.slice a n c] W1 fun e w' => e = .returned (.tuple #[.string (strOfNums body), .int .i64 (m : Int), .bool true]) ∧ Below W1.heap.size W1 w') := by rw [e] at HO0; exact HO0
    have HOF : Hid (ofN bs = if m = bs.length ∧ s4 (up 0 (bs.take (m - 4))) = bs.drop (m - 4) then (match frT body with | none => none | some (f, r) => if r = [] ∧ frB f = true then some f else none) else none) := by show _ = _; unfold ofN; rw [ho]; rfl
    have HBD : Hid (Byt body) := hd_byt body bs _ HBY.out o1
    have HBL : Hid (body.length ≤ n) := by
      have h1 := hdN_len body
      have h2 := pt_len body
      show _ ≤ _
      omega
    have HM4 : Hid (4 ≤ m) := by have := hdN_len body; show _ ≤ _; omega
    have HMN : Hid (m ≤ n) := by show _ ≤ _; omega
    clear e ho HO0 o1 o2 o3
    by_cases hmn : m = n
    · subst hmn
      obtain ⟨q, hq⟩ : ∃ q : Nat, q = m - 4 := ⟨_, rfl⟩
      have hsub : (m : Int) - 4 = (q : Int) := by have := HM4.out; omega
      have hqc : q ≤ c := by omega
      have hcut1 := fun W => cut_bytes a m c q hqc W
      obtain ⟨a', hcut2, hrd2⟩ := cut_from (HRD.out w (Below.refl _ _)) q (by omega) hc
      have hm4 : m - q = 4 := by have := HM4.out; omega
      rw [hm4] at hrd2 hcut2
      have HR2 : Hid (∀ W, Below w.heap.size w W → Rd .u8 W a' 4 (bs.drop q)) := fun W h => hrd2.later h
      have HR1 : Hid (∀ W, Below w.heap.size w W → Rd .u8 W a q (bs.take q)) := fun W h => (HRD.out W h).take q (by omega)
      have HQM : Hid (q = m - 4) := hq
      have HLEN : Hid (bs.length = m) := hlen
      have hqi : (q : Int) ≤ 100000 := by omega
      have hmi : (m : Int) ≤ 100000 := by omega
      have hwq : IntKind.i64.wrap (q : Int) = (q : Int) := by rw [IntKind.wrap_i64]; omega
      clear hrd2 hq hm4 hlen
      by_cases hz : s4 (up 0 (bs.take q)) = bs.drop q
      · have hzz : decide (s4 (up 0 (bs.take q)) = bs.drop q) = true := decide_eq_true hz
        have HZ : Hid (decide (s4 (up 0 (bs.take q)) = bs.drop q) = true) := hzz
        have HOG : Hid (ofN bs = (match frT body with | none => none | some (f, r) => if r = [] ∧ frB f = true then some f else none)) := by
          show _ = _
          rw [HOF.out, if_pos ⟨HLEN.out.symm, by rw [← HQM.out]; exact hz⟩]
        clear hz hzz
        go_enter_defers Try.func34, Try.ntmps34
        go_upto_region 1 with fail
        simp only [← hW1, ← HEE.out]
        simp only [← HFF.out]
        clear hW1
        go_upto_region 3 with (go_at_call 81; refine HO.out.mono ?_; rintro e w2 ⟨rfl, hb⟩; have HB2 : Hid (Below W1.heap.size W1 w2) := hb; clear hb)
        have HBW : Hid (Below w.heap.size w w2.drew) := HB1.out.trans (HB2.out.drew.mono HB1.out.size)
        have HBW1 : Hid (Below W1.heap.size W1 w2.drew) := HB2.out.drew
        refine wp_region_any (by kernel_rfl) ?_
        try (change wpAny _ _ _ _ _ _ _ (World.drew _))
        refine wpAny_take (i := 0) (v := ?_) rfl (by kernel_rfl) (by kernel_rfl) (by kernel_rfl) (fun _ _ _ h => of_put _ _ (by decide) (by decide) _ _ _ h) (Or.inl ⟨by rfl, ?_⟩) ?_
        rotate_left
        · intro W'
          go_simp
          try with_reducible rfl
        go_simp
        refine wpAny_take (i := 1) (v := ?_) rfl (by kernel_rfl) (by kernel_rfl) (by kernel_rfl) (fun _ _ _ h => of_put _ _ (by decide) (by decide) _ _ _ h) (Or.inl ⟨by rfl, ?_⟩) ?_
        rotate_left
        · intro W'
          go_simp
          try with_reducible rfl
        go_simp
        refine wpAny_take (i := 2) (v := ?_) rfl (by kernel_rfl) (by kernel_rfl) (by kernel_rfl) (fun _ _ _ h => of_put _ _ (by decide) (by decide) _ _ _ h) (Or.inl ⟨by rfl, ?_⟩) ?_
        rotate_left
        · intro W'
          go_simp
          try with_reducible rfl
        go_simp
        refine wpAny_take (i := 3) (v := ?_) rfl (by kernel_rfl) (by kernel_rfl) (by kernel_rfl) (fun _ _ _ h => of_put _ _ (by decide) (by decide) _ _ _ h) (Or.inl ⟨by rfl, ?_⟩) ?_
        rotate_left
        · intro W'
          go_simp
          try with_reducible rfl
        go_simp
        refine wpAny_take (i := 4) (v := ?_) rfl (by kernel_rfl) (by kernel_rfl) (by kernel_rfl) (fun _ _ _ h => of_put _ _ (by decide) (by decide) _ _ _ h) (Or.inl ⟨by rfl, ?_⟩) ?_
        rotate_left
        · intro W'
          go_simp
          try with_reducible rfl
        go_simp
        refine wpAny_take (i := 5) (v := ?_) rfl (by kernel_rfl) (by kernel_rfl) (by kernel_rfl) (fun _ _ _ h => of_put _ _ (by decide) (by decide) _ _ _ h) (Or.inl ⟨by rfl, ?_⟩) ?_
        rotate_left
        · intro W'
          go_simp
          try with_reducible rfl
        go_simp
        refine wpAny_take (i := 6) (v := ?_) rfl (by kernel_rfl) (by kernel_rfl) (by kernel_rfl) (fun _ _ _ h => of_put _ _ (by decide) (by decide) _ _ _ h) (Or.inl ⟨by rfl, ?_⟩) ?_
        rotate_left
        · intro W'
          go_simp
          try with_reducible rfl
        go_simp
        refine wpAny_take (i := 7) (v := ?_) rfl (by kernel_rfl) (by kernel_rfl) (by kernel_rfl) (fun _ _ _ h => of_put _ _ (by decide) (by decide) _ _ _ h) (Or.inl ⟨by rfl, ?_⟩) ?_
        rotate_left
        · intro W'
          go_simp
          try with_reducible rfl
        go_simp
        refine wpAny_take (i := 8) (v := ?_) rfl (by kernel_rfl) (by kernel_rfl) (by kernel_rfl) (fun _ _ _ h => of_put _ _ (by decide) (by decide) _ _ _ h) (Or.inl ⟨by rfl, ?_⟩) ?_
        rotate_left
        · intro W'
          go_simp
          try with_reducible rfl
        go_simp
        refine wpAny_take (i := 9) (v := ?_) rfl (by kernel_rfl) (by kernel_rfl) (by kernel_rfl) (fun _ _ _ h => of_put _ _ (by decide) (by decide) _ _ _ h) (Or.inl ⟨by rfl, ?_⟩) ?_
        rotate_left
        · intro W'
          go_simp
          try with_reducible rfl
        go_simp
        refine wpAny_take (i := 10) (v := ?_) rfl (by kernel_rfl) (by kernel_rfl) (by kernel_rfl) (fun _ _ _ h => of_put _ _ (by decide) (by decide) _ _ _ h) (Or.inl ⟨by rfl, ?_⟩) ?_
        rotate_left
        · intro W'
          go_simp
          try with_reducible rfl
        go_simp
        refine wpAny_take (i := 11) (v := ?_) rfl (by kernel_rfl) (by kernel_rfl) (by kernel_rfl) (fun _ _ _ h => of_put _ _ (by decide) (by decide) _ _ _ h) (Or.inl ⟨by rfl, ?_⟩) ?_
        rotate_left
        · intro W'
          go_simp
          try with_reducible rfl
        go_simp
        refine wpAny_take (i := 13) (v := ?_) rfl (by kernel_rfl) (by kernel_rfl) (by kernel_rfl) (fun _ _ _ h => of_put _ _ (by decide) (by decide) _ _ _ h) (Or.inl ⟨by rfl, ?_⟩) ?_
        rotate_left
        · intro W'
          go_simp
          try with_reducible rfl
        go_simp
        refine wpAny_take (i := 14) (v := ?_) rfl (by kernel_rfl) (by kernel_rfl) (by kernel_rfl) (fun _ _ _ h => of_put _ _ (by decide) (by decide) _ _ _ h) (Or.inl ⟨by rfl, ?_⟩) ?_
        rotate_left
        · intro W'
          go_simp
          try with_reducible rfl
        go_simp
        refine wpAny_take (i := 15) (v := ?_) rfl (by kernel_rfl) (by kernel_rfl) (by kernel_rfl) (fun _ _ _ h => of_put _ _ (by decide) (by decide) _ _ _ h) (Or.inl ⟨by rfl, ?_⟩) ?_
        rotate_left
        · intro W'
          go_simp
          try with_reducible rfl
        go_simp
        refine wpAny_take (i := 16) (v := ?_) rfl (by kernel_rfl) (by kernel_rfl) (by kernel_rfl) (fun _ _ _ h => of_put _ _ (by decide) (by decide) _ _ _ h) (Or.inl ⟨by rfl, ?_⟩) ?_
        rotate_left
        · intro W'
          go_simp
          try with_reducible rfl
        go_simp
        refine wpAny_ready (rs := [12]) (by kernel_rfl) (by simp) ?_
        refine AllReady.cons rfl (fun K hK => ?_) AllReady.nil
        go_simp
        go_wp2_with (go_at_call 69
                     refine (fsum_any (bs.take q) a q c _ (HBY.out.take q) (HR1.out _ HBW.out) (by omega)).mono ?_
                     rintro e w3 ⟨g, hg, rfl, hb, hr⟩
                     have HB3 : Hid (Below w2.drew.heap.size w2.drew w3) := hb
                     have HR3 : Hid (Rd .u8 w3 (some ⟨g, 0, none⟩) 4 (s4 (up 0 (bs.take q)))) := hr
                     have HBW3 : Hid (Below w.heap.size w w3) := HBW.out.trans (hb.mono HBW.out.size)
                     clear hb hr hg)
        try refine hK _ _ ?_
        try clear hK K
        try simp only [Act.put, List.getElem_toArray, List.getElem_cons_succ, List.getElem_cons_zero, List.setIfInBounds_toArray, List.set_cons_zero, List.set_cons_succ]
        refine wpAny_ready (rs := [17]) (by kernel_rfl) (by simp) ?_
        refine AllReady.cons rfl (fun K hK => ?_) AllReady.nil
        go_simp
        go_wp2_with (go_at_call 84
                     refine (beq_any (s4 (up 0 (bs.take q))) (bs.drop q) (some ⟨g, 0, none⟩) a' 4 4 4 (c - q) _ (s4_byt _ (up_lt _ _)) (HBY.out.drop q) HR3.out (HR2.out _ HBW3.out) true HZ.out.symm).mono ?_
                     rintro e w4 ⟨rfl, hw4⟩
                     obtain rfl := hw4.symm
                     clear hw4)
        try refine hK _ _ ?_
        try clear hK K
        try simp only [Act.put, List.getElem_toArray, List.getElem_cons_succ, List.getElem_cons_zero, List.setIfInBounds_toArray, List.set_cons_zero, List.set_cons_succ]
        refine wpAny_take (i := 18) (v := ?_) rfl (by kernel_rfl) (by kernel_rfl) (by kernel_rfl) (fun _ _ _ h => of_put _ _ (by decide) (by decide) _ _ _ h) (Or.inl ⟨by rfl, ?_⟩) ?_
        rotate_left
        · intro W'
          go_simp
          try with_reducible rfl
        go_simp
        refine wpAny_ready (rs := [19]) (by kernel_rfl) (by simp) ?_
        refine AllReady.cons rfl (fun K hK => ?_) AllReady.nil
        go_simp
        go_wp2_with (go_at_call 83
                     refine (need_ok _).mono ?_
                     rintro e w3 ⟨rfl, hw3⟩
                     obtain rfl := hw3.symm
                     clear hw3)
        try refine hK _ _ ?_
        try clear hK K
        try simp only [Act.put, List.getElem_toArray, List.getElem_cons_succ, List.getElem_cons_zero, List.setIfInBounds_toArray, List.set_cons_zero, List.set_cons_succ]
        refine wpAny_done (by kernel_rfl) ?_ _
        have HBX3 : Hid (Below W1.heap.size W1 w3) := HBW1.out.trans (HB3.out.mono HBW1.out.size)
        obtain ⟨c5, w5, hcv, hc5, hb5, hs5, hr5, cs5, hcs5, hh5⟩ := conv_bytes body HBD.out (by have := HBL.out; omega) w3
        obtain ⟨W6, hW6⟩ : ∃ W6, W6 = w5.alloc (.cells #[.slice (some ⟨w3.heap.size, 0, none⟩) body.length c5] 129) := ⟨_, rfl⟩
        obtain ⟨R, hR⟩ : ∃ R, R = w5.heap.size := ⟨_, rfl⟩
        obtain ⟨K0, hK0⟩ : ∃ K0, K0 = w3.heap.size := ⟨_, rfl⟩
        have HRR : Hid (R = w5.heap.size) := hR
        have HKK : Hid (K0 = w3.heap.size) := hK0
        have hb6 : Below w5.heap.size w5 W6 := by rw [hW6]; exact (Below.refl _ w5).alloc (Nat.le_refl _) _
        have hrd : RdrA W6 R K0 body := by
          refine ⟨HBD.out, (by have := HBL.out; omega), some ⟨w3.heap.size, 0, none⟩, c5, ?_, hr5.later hb6, hc5, fun x e => by cases e; rw [hK0]⟩
          rw [hW6, hR]
          exact heap_alloc_new w5 _
        have hs6 : W6.heap.size = R + 1 := by rw [hW6, hR]; simp
        have HSR : Hid (W6.heap.size = R + 1 ∧ R = K0 + 1 ∧ W1.heap.size ≤ K0) := ⟨hs6, by rw [hR, hK0]; exact hs5, by rw [hK0]; exact HBX3.out.size⟩
        have HB6 : Hid (Below W1.heap.size W1 W6) := HBX3.out.trans ((hb5.trans (hb6.mono hb5.size)).mono HBX3.out.size)
        have HFR : Hid (Calls Try.prog 85 #[.pointer (some ⟨R, 0, none⟩)] W6 fun e w' => FrmQ (frT body) R K0 W6 e w') := frame_rd body R K0 W6 hrd (by omega)
        rw [← hK0] at hcv hW6
        have HFO : Hid (∀ W, Chg W6 W (fun k => k = R) → W.heap[F]? = some (.cells #[.int .i64 0, .int .i64 0, .slice none 0 0, .slice none 0 0, .int .i64 0] 51) ∧ W.heap[E]? = some (.cells #[.int .i64 0] 28) ∧ Below W1.heap.size W1 W) := by
          intro W hW
          have h1 := HSZ.out
          have h2 := HFF.out
          have h3 := HEE.out
          have h4 := HSR.out
          have hb := HB6.out.trans (cg_bel hW (B := W1.heap.size) HB6.out.size (fun k hk => by omega))
          exact ⟨(hb.block F (by omega)).trans HWF.out, (hb.block E (by omega)).trans HWE.out, hb⟩
        clear hc5 hb5 hs5 hr5 hcs5 hh5 hb6 hrd hs6 hR hK0
        go_upto_region 5 with fail
        simp only [← HKK.out, ← HRR.out, ← hW6]
        clear hW6 hcv
        cases hf : frT body with
        | none =>
          have H0 : Hid (ofN bs = none) := by show _ = _; rw [HOG.out, hf]
          rw [hf] at HFR
          clear hf
          go_wp2_with (go_at_call 85; refine HFR.out.mono ?_; rintro e w7 ⟨hc, hp, -⟩; obtain rfl := hp rfl; have HC7 : Hid (Chg W6 w7 (fun k => k = R)) := hc; clear hc hp)
          obtain ⟨g1, g2, g3⟩ := HFO.out _ HC7.out
          exact of_panic bs w _ F E _ H0.out rfl rfl rfl ⟨_, _, _, _, _, g1⟩ g2 (HB1.out.trans (g3.mono HB1.out.size)) HFS.out HES.out
        | some p =>
          obtain ⟨f, r⟩ := p
          have HOH : Hid (ofN bs = if r = [] ∧ frB f = true then some f else none) := by show _ = _; rw [HOG.out, hf]
          have hfl : f.vec.length ≤ 100000 ∧ f.ops.length ≤ 100000 := by
            obtain ⟨t1, t2, t3⟩ := frT_inv body HBD.out f r hf
            have h1 := HBL.out
            have h2 : (bodyN f).length ≤ body.length := by rw [t1]; simp
            have h3 := pks_len (numN f)
            have h4 : (numN f).length = (pks (numN f)).length - ((pks (numN f)).length - (numN f).length) := by omega
            have h5 : f.vec.length + f.ops.length ≤ (numN f).length := by
              have e1 : f.vec.length ≤ (f.vec.flatMap enN).length := by
                clear h1 h2 h3 h4 t1 t2 t3 hf
                generalize f.vec = l
                induction l with
                | nil => simp
                | cons y r ih => rw [List.flatMap_cons, List.length_append, List.length_cons]; simp only [enN, List.length_cons, List.length_nil]; omega
              have e2 : f.ops.length ≤ (f.ops.flatMap opN).length := by
                clear h1 h2 h3 h4 t1 t2 t3 hf e1
                generalize f.ops = l
                induction l with
                | nil => simp
                | cons y r ih => rw [List.flatMap_cons, List.length_append, List.length_cons]; simp only [opN, List.length_append, List.length_cons, List.length_nil]; omega
              rw [numN]
              simp only [List.length_append, List.length_cons, List.length_nil]
              omega
            have h6 : (bodyN f).length = (pks (numN f)).length := rfl
            exact ⟨by omega, by omega⟩
          have HFL : Hid (f.vec.length ≤ 100000 ∧ f.ops.length ≤ 100000) := hfl
          rw [hf] at HFR
          clear hf hfl
          go_upto_region 6 with (go_at_call 85
                                 refine HFR.out.mono ?_
                                 rintro e w7 ⟨hc, -, hp⟩
                                 obtain ⟨k, g, va, vn, vc, oa, on, oc, x, rfl, hat, hrr⟩ := hp _ _ rfl
                                 have HC7 : Hid (Chg W6 w7 (fun k => k = R)) := hc
                                 have HAT : Hid (FrAtB w7 k g va vn vc oa on oc x f W6.heap.size) := hat
                                 have HRD7 : Hid (RdrA w7 R K0 r) := hrr
                                 obtain ⟨g1, g2, g3⟩ := HFO.out _ hc
                                 have z0 : w7.cell? ⟨F, 0, none⟩ = some (.int .i64 0) := cell_of_row w7 F 0 _ _ _ g1
                                 have z1 : w7.cell? ⟨F, 1, none⟩ = some (.int .i64 0) := cell_of_row w7 F 1 _ _ _ g1
                                 have z2 : w7.cell? ⟨F, 2, none⟩ = some (.slice none 0 0) := cell_of_row w7 F 2 _ _ _ g1
                                 have z3 : w7.cell? ⟨F, 3, none⟩ = some (.slice none 0 0) := cell_of_row w7 F 3 _ _ _ g1
                                 have z4 : w7.cell? ⟨F, 4, none⟩ = some (.int .i64 0) := cell_of_row w7 F 4 _ _ _ g1
                                 have zf0 : w7.frozen? ⟨F, 0, none⟩ = false := Lib.frozen_of_heap g1 _
                                 have zf1 : w7.frozen? ⟨F, 1, none⟩ = false := Lib.frozen_of_heap g1 _
                                 have zf2 : w7.frozen? ⟨F, 2, none⟩ = false := Lib.frozen_of_heap g1 _
                                 have zf3 : w7.frozen? ⟨F, 3, none⟩ = false := Lib.frozen_of_heap g1 _
                                 have zf4 : w7.frozen? ⟨F, 4, none⟩ = false := Lib.frozen_of_heap g1 _
                                 have HGF : Hid (w7.heap[F]? = some (.cells #[.int .i64 0, .int .i64 0, .slice none 0 0, .slice none 0 0, .int .i64 0] 51)) := g1
                                 have HGE : Hid (w7.heap[E]? = some (.cells #[.int .i64 0] 28)) := g2
                                 have HB7 : Hid (Below W1.heap.size W1 w7) := g3
                                 clear hc hp hat hrr g1 g2 g3)
          obtain ⟨W8, hW8⟩ : ∃ W8, W8 = (((((w7.setCell ⟨F, 0, none⟩ (.int .i64 k)).setCell ⟨F, 1, none⟩ (.int .i64 g)).setCell ⟨F, 2, none⟩ (.slice va vn vc)).setCell ⟨F, 3, none⟩ (.slice oa on oc)).setCell ⟨F, 4, none⟩ (.int .i64 x)) := ⟨_, rfl⟩
          have HF8 := set5 (E := E) HGF.out HGE.out (.int .i64 k) (.int .i64 g) (.slice va vn vc) (.slice oa on oc) (.int .i64 x) (by have := HES.out; omega) W8 hW8
          clear z0 z1 z2 z3 z4 zf0 zf1 zf2 zf3 zf4
          simp only [← hW8]
          clear hW8
          obtain ⟨hg8, hf8, he8⟩ := HF8
          have hB8 : Below w.heap.size w W8 := (HB1.out.trans (HB7.out.mono HB1.out.size)).trans (cg_bel hg8 (HB1.out.trans (HB7.out.mono HB1.out.size)).size (fun j hj => by have := HFS.out; omega))
          have HB8 : Hid (Below w.heap.size w W8) := hB8
          have hr8 : RdrA W8 R K0 r := HRD7.out.cg2 hg8 (by have := HSR.out; have := HSZ.out; have := HFF.out; omega) (by have := HSR.out; have := HSZ.out; have := HFF.out; omega)
          have hat8 : FrAtB W8 k g va vn vc oa on oc x f W6.heap.size := HAT.out.cg hg8 (fun j hj => by have := HSR.out; have := HSZ.out; have := HFF.out; omega)
          have HAT8 : Hid (FrAtB W8 k g va vn vc oa on oc x f W6.heap.size) := hat8
          obtain ⟨_, hrl, ar, cr, hhr, _, _, _⟩ := hr8
          have y0 : W8.cell? ⟨R, 0, none⟩ = some (.slice ar r.length cr) := cell_of_row W8 R 0 _ _ _ hhr
          have c0 : W8.cell? ⟨F, 0, none⟩ = some (.int .i64 k) := cell_of_row W8 F 0 _ _ _ hf8
          have c1 : W8.cell? ⟨F, 1, none⟩ = some (.int .i64 g) := cell_of_row W8 F 1 _ _ _ hf8
          have c2 : W8.cell? ⟨F, 2, none⟩ = some (.slice va vn vc) := cell_of_row W8 F 2 _ _ _ hf8
          have c3 : W8.cell? ⟨F, 3, none⟩ = some (.slice oa on oc) := cell_of_row W8 F 3 _ _ _ hf8
          have c4 : W8.cell? ⟨F, 4, none⟩ = some (.int .i64 x) := cell_of_row W8 F 4 _ _ _ hf8
          have HHF : Hid (W8.heap[F]? = some (.cells #[.int .i64 k, .int .i64 g, .slice va vn vc, .slice oa on oc, .int .i64 x] 51)) := hf8
          have HHE : Hid (W8.heap[E]? = some (.cells #[.int .i64 0] 28)) := he8
          have HRT : Hid (Calls Try.prog 29 #[.agg #[.int .i64 k, .int .i64 g, .slice va vn vc, .slice oa on oc, .int .i64 x]] W8 fun e w' => e = .returned (.bool (frB f)) ∧ Below W8.heap.size W8 w') := frRight_any f _ W8 hat8.at HFL.out.1 HFL.out.2
          have hFl8 : F < W8.heap.size ∧ E < W8.heap.size := ⟨(Array.getElem?_eq_some_iff.1 hf8).1, (Array.getElem?_eq_some_iff.1 he8).1⟩
          have HLT : Hid (F < W8.heap.size ∧ E < W8.heap.size) := hFl8
          clear hg8 hf8 he8 hB8 hat8 hhr hFl8
          by_cases hr0 : r = []
          · subst hr0
            have hl0 : (([] : List Int).length : Int) = 0 := rfl
            cases hfb : frB f
            · have H0 : Hid (ofN bs = none) := by show _ = _; rw [HOH.out, if_neg (fun h => by rw [hfb] at h; cases h.2)]
              rw [hfb] at HRT
              clear hfb
              go_wp2_with (first
                | (go_at_call 29; refine HRT.out.mono ?_; rintro e w9 ⟨rfl, hb⟩; have HB9 : Hid (Below W8.heap.size W8 w9) := hb; clear hb)
                | (go_at_call 83; refine (need_bad _).mono ?_; rintro e w10 ⟨rfl, hw⟩; obtain rfl := hw.symm; clear hw))
              exact of_panic bs w _ F E _ H0.out rfl rfl rfl ⟨_, _, _, _, _, (HB9.out.block F HLT.out.1).trans HHF.out⟩ ((HB9.out.block E HLT.out.2).trans HHE.out) (HB8.out.trans (HB9.out.mono HB8.out.size)) HFS.out HES.out
            · have H1 : Hid (ofN bs = some f) := by show _ = _; rw [HOH.out, if_pos ⟨rfl, hfb⟩]
              rw [hfb] at HRT
              clear hfb
              go_upto_region 7 with (first
                | (go_at_call 29
                   refine HRT.out.mono ?_
                   rintro e w9 ⟨rfl, hb⟩
                   have HB9 : Hid (Below W8.heap.size W8 w9) := hb
                   have HHF9 : Hid (w9.heap[F]? = some (.cells #[.int .i64 k, .int .i64 g, .slice va vn vc, .slice oa on oc, .int .i64 x] 51)) := (hb.block F HLT.out.1).trans HHF.out
                   have HHE9 : Hid (w9.heap[E]? = some (.cells #[.int .i64 0] 28)) := (hb.block E HLT.out.2).trans HHE.out
                   clear hb)
                | (go_at_call 83; refine (need_ok _).mono ?_; rintro e w10 ⟨rfl, hw⟩; obtain rfl := hw.symm; clear hw))
              clear y0 c0 c1 c2 c3 c4
              have c0 : w9.cell? ⟨F, 0, none⟩ = some (.int .i64 k) := cell_of_row w9 F 0 _ _ _ HHF9.out
              have c1 : w9.cell? ⟨F, 1, none⟩ = some (.int .i64 g) := cell_of_row w9 F 1 _ _ _ HHF9.out
              have c2 : w9.cell? ⟨F, 2, none⟩ = some (.slice va vn vc) := cell_of_row w9 F 2 _ _ _ HHF9.out
              have c3 : w9.cell? ⟨F, 3, none⟩ = some (.slice oa on oc) := cell_of_row w9 F 3 _ _ _ HHF9.out
              have c4 : w9.cell? ⟨F, 4, none⟩ = some (.int .i64 x) := cell_of_row w9 F 4 _ _ _ HHF9.out
              have ce : w9.cell? ⟨E, 0, none⟩ = some (.int .i64 0) := cell_of_row w9 E 0 _ _ _ HHE9.out
              have zf0 : w9.frozen? ⟨F, 0, none⟩ = false := Lib.frozen_of_heap HHF9.out _
              have zf1 : w9.frozen? ⟨F, 1, none⟩ = false := Lib.frozen_of_heap HHF9.out _
              have zf2 : w9.frozen? ⟨F, 2, none⟩ = false := Lib.frozen_of_heap HHF9.out _
              have zf3 : w9.frozen? ⟨F, 3, none⟩ = false := Lib.frozen_of_heap HHF9.out _
              have zf4 : w9.frozen? ⟨F, 4, none⟩ = false := Lib.frozen_of_heap HHF9.out _
              have zfe : w9.frozen? ⟨E, 0, none⟩ = false := Lib.frozen_of_heap HHE9.out _
              have hFE : F ≠ E := by have := HES.out; omega
              have hEF : E ≠ F := by omega
              have HEND : Hid (∀ W, W = ((((((w9.setCell ⟨F, 0, none⟩ (.int .i64 k)).setCell ⟨F, 1, none⟩ (.int .i64 g)).setCell ⟨F, 2, none⟩ (.slice va vn vc)).setCell ⟨F, 3, none⟩ (.slice oa on oc)).setCell ⟨F, 4, none⟩ (.int .i64 x)).setCell ⟨E, 0, none⟩ (.int .i64 0)) → OfQ bs w (.returned (.tuple #[frV k g va vn vc oa on oc x, .int .i64 0])) W) := by
                intro W hW
                have hs := set5 (E := E) HHF9.out HHE9.out (.int .i64 k) (.int .i64 g) (.slice va vn vc) (.slice oa on oc) (.int .i64 x) hFE _ rfl
                have hcg := cg_trans (cg_trans (cg_refl w9 (fun j => j = F ∨ j = E)) hs.1 (fun _ _ h => .inl h)) (cg_set _ E 0 (.int .i64 0)) (fun _ _ h => .inr h)
                rw [← hW] at hcg
                have hb9 := HB8.out.trans (HB9.out.mono HB8.out.size)
                refine ⟨hb9.trans (cg_bel hcg hb9.size (fun j hj => by have := HFS.out; have := HES.out; omega)), (fun h => by rw [H1.out] at h; cases h), fun f' hf' => ?_⟩
                rw [H1.out] at hf'
                cases hf'
                have hat9 := (HAT8.out.cg (cg_below HB9.out (fun _ => False)) (fun _ _ h => h)).cg hcg (fun j hj => by have := HSR.out; have := HSZ.out; have := HFF.out; have := HEE.out; omega)
                exact ⟨_, rfl, hat9.at⟩
              go_wp2
              refine leaves_cons (f := 82) (args := #[.pointer (some ⟨F, 0, none⟩), .pointer (some ⟨E, 0, none⟩)]) (by simp) (by simp [go_sem]) ?_
              refine (catch_idle F E _).mono ?_
              rintro e u' w'' ⟨rfl, rfl, rfl⟩
              have hend := HEND.out _ rfl
              clear HEND
              simp [Leaves, settle, results, Try.results34, go_sem, c0, c1, c2, c3, c4, ce, hFE, hEF]
              exact hend
          · have H0 : Hid (ofN bs = none) := by show _ = _; rw [HOH.out, if_neg (fun h => hr0 h.1)]
            have hr1 : ((r.length : Int) == 0) = false := by
              rw [Bool.eq_false_iff]
              intro h
              simp at h
              exact hr0 h
            generalize r.length = rl at *
            go_wp2_with (go_at_call 83; refine (need_bad _).mono ?_; rintro e w10 ⟨rfl, hw⟩; obtain rfl := hw.symm; clear hw)
            exact of_panic bs w _ F E _ H0.out rfl rfl rfl ⟨_, _, _, _, _, HHF.out⟩ HHE.out HB8.out HFS.out HES.out
      · have H0 : Hid (ofN bs = none) := by
          show _ = _
          rw [HOF.out, if_neg (fun h => hz (by rw [HQM.out]; exact h.2))]
        have hzz : decide (s4 (up 0 (bs.take q)) = bs.drop q) = false := decide_eq_false hz
        have HZ : Hid (decide (s4 (up 0 (bs.take q)) = bs.drop q) = false) := hzz
        clear hz hzz
        go_enter_defers Try.func34, Try.ntmps34
        go_upto_region 1 with fail
        simp only [← hW1, ← HEE.out]
        simp only [← HFF.out]
        clear hW1
        go_upto_region 3 with (go_at_call 81; refine HO.out.mono ?_; rintro e w2 ⟨rfl, hb⟩; have HB2 : Hid (Below W1.heap.size W1 w2) := hb; clear hb)
        have HBW : Hid (Below w.heap.size w w2.drew) := HB1.out.trans (HB2.out.drew.mono HB1.out.size)
        have HBW1 : Hid (Below W1.heap.size W1 w2.drew) := HB2.out.drew
        refine wp_region_any (by kernel_rfl) ?_
        try (change wpAny _ _ _ _ _ _ _ (World.drew _))
        refine wpAny_take (i := 0) (v := ?_) rfl (by kernel_rfl) (by kernel_rfl) (by kernel_rfl) (fun _ _ _ h => of_put _ _ (by decide) (by decide) _ _ _ h) (Or.inl ⟨by rfl, ?_⟩) ?_
        rotate_left
        · intro W'
          go_simp
          try with_reducible rfl
        go_simp
        refine wpAny_take (i := 1) (v := ?_) rfl (by kernel_rfl) (by kernel_rfl) (by kernel_rfl) (fun _ _ _ h => of_put _ _ (by decide) (by decide) _ _ _ h) (Or.inl ⟨by rfl, ?_⟩) ?_
        rotate_left
        · intro W'
          go_simp
          try with_reducible rfl
        go_simp
        refine wpAny_take (i := 2) (v := ?_) rfl (by kernel_rfl) (by kernel_rfl) (by kernel_rfl) (fun _ _ _ h => of_put _ _ (by decide) (by decide) _ _ _ h) (Or.inl ⟨by rfl, ?_⟩) ?_
        rotate_left
        · intro W'
          go_simp
          try with_reducible rfl
        go_simp
        refine wpAny_take (i := 3) (v := ?_) rfl (by kernel_rfl) (by kernel_rfl) (by kernel_rfl) (fun _ _ _ h => of_put _ _ (by decide) (by decide) _ _ _ h) (Or.inl ⟨by rfl, ?_⟩) ?_
        rotate_left
        · intro W'
          go_simp
          try with_reducible rfl
        go_simp
        refine wpAny_take (i := 4) (v := ?_) rfl (by kernel_rfl) (by kernel_rfl) (by kernel_rfl) (fun _ _ _ h => of_put _ _ (by decide) (by decide) _ _ _ h) (Or.inl ⟨by rfl, ?_⟩) ?_
        rotate_left
        · intro W'
          go_simp
          try with_reducible rfl
        go_simp
        refine wpAny_take (i := 5) (v := ?_) rfl (by kernel_rfl) (by kernel_rfl) (by kernel_rfl) (fun _ _ _ h => of_put _ _ (by decide) (by decide) _ _ _ h) (Or.inl ⟨by rfl, ?_⟩) ?_
        rotate_left
        · intro W'
          go_simp
          try with_reducible rfl
        go_simp
        refine wpAny_take (i := 6) (v := ?_) rfl (by kernel_rfl) (by kernel_rfl) (by kernel_rfl) (fun _ _ _ h => of_put _ _ (by decide) (by decide) _ _ _ h) (Or.inl ⟨by rfl, ?_⟩) ?_
        rotate_left
        · intro W'
          go_simp
          try with_reducible rfl
        go_simp
        refine wpAny_take (i := 7) (v := ?_) rfl (by kernel_rfl) (by kernel_rfl) (by kernel_rfl) (fun _ _ _ h => of_put _ _ (by decide) (by decide) _ _ _ h) (Or.inl ⟨by rfl, ?_⟩) ?_
        rotate_left
        · intro W'
          go_simp
          try with_reducible rfl
        go_simp
        refine wpAny_take (i := 8) (v := ?_) rfl (by kernel_rfl) (by kernel_rfl) (by kernel_rfl) (fun _ _ _ h => of_put _ _ (by decide) (by decide) _ _ _ h) (Or.inl ⟨by rfl, ?_⟩) ?_
        rotate_left
        · intro W'
          go_simp
          try with_reducible rfl
        go_simp
        refine wpAny_take (i := 9) (v := ?_) rfl (by kernel_rfl) (by kernel_rfl) (by kernel_rfl) (fun _ _ _ h => of_put _ _ (by decide) (by decide) _ _ _ h) (Or.inl ⟨by rfl, ?_⟩) ?_
        rotate_left
        · intro W'
          go_simp
          try with_reducible rfl
        go_simp
        refine wpAny_take (i := 10) (v := ?_) rfl (by kernel_rfl) (by kernel_rfl) (by kernel_rfl) (fun _ _ _ h => of_put _ _ (by decide) (by decide) _ _ _ h) (Or.inl ⟨by rfl, ?_⟩) ?_
        rotate_left
        · intro W'
          go_simp
          try with_reducible rfl
        go_simp
        refine wpAny_take (i := 11) (v := ?_) rfl (by kernel_rfl) (by kernel_rfl) (by kernel_rfl) (fun _ _ _ h => of_put _ _ (by decide) (by decide) _ _ _ h) (Or.inl ⟨by rfl, ?_⟩) ?_
        rotate_left
        · intro W'
          go_simp
          try with_reducible rfl
        go_simp
        refine wpAny_take (i := 13) (v := ?_) rfl (by kernel_rfl) (by kernel_rfl) (by kernel_rfl) (fun _ _ _ h => of_put _ _ (by decide) (by decide) _ _ _ h) (Or.inl ⟨by rfl, ?_⟩) ?_
        rotate_left
        · intro W'
          go_simp
          try with_reducible rfl
        go_simp
        refine wpAny_take (i := 14) (v := ?_) rfl (by kernel_rfl) (by kernel_rfl) (by kernel_rfl) (fun _ _ _ h => of_put _ _ (by decide) (by decide) _ _ _ h) (Or.inl ⟨by rfl, ?_⟩) ?_
        rotate_left
        · intro W'
          go_simp
          try with_reducible rfl
        go_simp
        refine wpAny_take (i := 15) (v := ?_) rfl (by kernel_rfl) (by kernel_rfl) (by kernel_rfl) (fun _ _ _ h => of_put _ _ (by decide) (by decide) _ _ _ h) (Or.inl ⟨by rfl, ?_⟩) ?_
        rotate_left
        · intro W'
          go_simp
          try with_reducible rfl
        go_simp
        refine wpAny_take (i := 16) (v := ?_) rfl (by kernel_rfl) (by kernel_rfl) (by kernel_rfl) (fun _ _ _ h => of_put _ _ (by decide) (by decide) _ _ _ h) (Or.inl ⟨by rfl, ?_⟩) ?_
        rotate_left
        · intro W'
          go_simp
          try with_reducible rfl
        go_simp
        refine wpAny_ready (rs := [12]) (by kernel_rfl) (by simp) ?_
        refine AllReady.cons rfl (fun K hK => ?_) AllReady.nil
        go_simp
        go_wp2_with (go_at_call 69
                     refine (fsum_any (bs.take q) a q c _ (HBY.out.take q) (HR1.out _ HBW.out) (by omega)).mono ?_
                     rintro e w3 ⟨g, hg, rfl, hb, hr⟩
                     have HB3 : Hid (Below w2.drew.heap.size w2.drew w3) := hb
                     have HR3 : Hid (Rd .u8 w3 (some ⟨g, 0, none⟩) 4 (s4 (up 0 (bs.take q)))) := hr
                     have HBW3 : Hid (Below w.heap.size w w3) := HBW.out.trans (hb.mono HBW.out.size)
                     clear hb hr hg)
        try refine hK _ _ ?_
        try clear hK K
        try simp only [Act.put, List.getElem_toArray, List.getElem_cons_succ, List.getElem_cons_zero, List.setIfInBounds_toArray, List.set_cons_zero, List.set_cons_succ]
        refine wpAny_ready (rs := [17]) (by kernel_rfl) (by simp) ?_
        refine AllReady.cons rfl (fun K hK => ?_) AllReady.nil
        go_simp
        go_wp2_with (go_at_call 84
                     refine (beq_any (s4 (up 0 (bs.take q))) (bs.drop q) (some ⟨g, 0, none⟩) a' 4 4 4 (c - q) _ (s4_byt _ (up_lt _ _)) (HBY.out.drop q) HR3.out (HR2.out _ HBW3.out) false HZ.out.symm).mono ?_
                     rintro e w4 ⟨rfl, hw4⟩
                     obtain rfl := hw4.symm
                     clear hw4)
        try refine hK _ _ ?_
        try clear hK K
        try simp only [Act.put, List.getElem_toArray, List.getElem_cons_succ, List.getElem_cons_zero, List.setIfInBounds_toArray, List.set_cons_zero, List.set_cons_succ]
        refine wpAny_take (i := 18) (v := ?_) rfl (by kernel_rfl) (by kernel_rfl) (by kernel_rfl) (fun _ _ _ h => of_put _ _ (by decide) (by decide) _ _ _ h) (Or.inl ⟨by rfl, ?_⟩) ?_
        rotate_left
        · intro W'
          go_simp
          try with_reducible rfl
        go_simp
        refine wpAny_ready (rs := [19]) (by kernel_rfl) (by simp) ?_
        refine AllReady.cons rfl (fun K hK => ?_) AllReady.nil
        go_simp
        go_wp2_with (go_at_call 83; refine (need_bad _).mono ?_; rintro e w3 ⟨rfl, hw3⟩; obtain rfl := hw3.symm; clear hw3)
        have hbw : Below W1.heap.size W1 w3 := HBW1.out.trans (HB3.out.mono HBW1.out.size)
        exact of_panic bs w _ F E _ H0.out rfl rfl rfl ⟨_, _, _, _, _, (hbw.block F (by have := HSZ.out; have := HFF.out; omega)).trans HWF.out⟩ ((hbw.block E (by have := HSZ.out; have := HEE.out; omega)).trans HWE.out) (HB1.out.trans (hbw.mono HB1.out.size)) HFS.out HES.out
    · have H0 : Hid (ofN bs = none) := by
        show _ = _
        rw [HOF.out, if_neg (fun h => hmn (by rw [← hlen]; exact h.1))]
      have heq : ((m : Int) == (n : Int)) = false := by rw [Bool.eq_false_iff]; simp; omega
      go_enter_defers Try.func34, Try.ntmps34
      go_upto_region 1 with fail
      simp only [← hW1, ← HEE.out]
      simp only [← HFF.out]
      clear hW1
      go_upto_region 3 with (go_at_call 81; refine HO.out.mono ?_; rintro e w2 ⟨rfl, hb⟩; have HB2 : Hid (Below W1.heap.size W1 w2) := hb; clear hb)
      refine wp_region_any (by kernel_rfl) ?_
      try (change wpAny _ _ _ _ _ _ _ (World.drew _))
      refine wpAny_take (i := 0) (v := ?_) rfl (by kernel_rfl) (by kernel_rfl) (by kernel_rfl) (fun _ _ _ h => of_put _ _ (by decide) (by decide) _ _ _ h) (Or.inl ⟨by rfl, ?_⟩) ?_
      rotate_left
      · intro W'
        go_simp
        try with_reducible rfl
      go_simp
      refine wpAny_take (i := 1) (v := ?_) rfl (by kernel_rfl) (by kernel_rfl) (by kernel_rfl) (fun _ _ _ h => of_put _ _ (by decide) (by decide) _ _ _ h) (Or.inl ⟨by rfl, ?_⟩) ?_
      rotate_left
      · intro W'
        go_simp
        try with_reducible rfl
      go_simp
      refine wpAny_take (i := 2) (v := ?_) rfl (by kernel_rfl) (by kernel_rfl) (by kernel_rfl) (fun _ _ _ h => of_put _ _ (by decide) (by decide) _ _ _ h) (Or.inl ⟨by rfl, ?_⟩) ?_
      rotate_left
      · intro W'
        go_simp
        try with_reducible rfl
      go_simp
      refine wpAny_take (i := 3) (v := ?_) rfl (by kernel_rfl) (by kernel_rfl) (by kernel_rfl) (fun _ _ _ h => of_put _ _ (by decide) (by decide) _ _ _ h) (Or.inl ⟨by rfl, ?_⟩) ?_
      rotate_left
      · intro W'
        go_simp
        try with_reducible rfl
      go_simp
      refine wpAny_take (i := 4) (v := ?_) rfl (by kernel_rfl) (by kernel_rfl) (by kernel_rfl) (fun _ _ _ h => of_put _ _ (by decide) (by decide) _ _ _ h) (Or.inl ⟨by rfl, ?_⟩) ?_
      rotate_left
      · intro W'
        go_simp
        try with_reducible rfl
      go_simp
      refine wpAny_take (i := 5) (v := ?_) rfl (by kernel_rfl) (by kernel_rfl) (by kernel_rfl) (fun _ _ _ h => of_put _ _ (by decide) (by decide) _ _ _ h) (Or.inl ⟨by rfl, ?_⟩) ?_
      rotate_left
      · intro W'
        go_simp
        try with_reducible rfl
      go_simp
      refine wpAny_take (i := 6) (v := ?_) rfl (by kernel_rfl) (by kernel_rfl) (by kernel_rfl) (fun _ _ _ h => of_put _ _ (by decide) (by decide) _ _ _ h) (Or.inl ⟨by rfl, ?_⟩) ?_
      rotate_left
      · intro W'
        go_simp
        try with_reducible rfl
      go_simp
      refine wpAny_take (i := 7) (v := ?_) rfl (by kernel_rfl) (by kernel_rfl) (by kernel_rfl) (fun _ _ _ h => of_put _ _ (by decide) (by decide) _ _ _ h) (Or.inl ⟨by rfl, ?_⟩) ?_
      rotate_left
      · intro W'
        go_simp
        try with_reducible rfl
      go_simp
      refine wpAny_take (i := 8) (v := undef) rfl (by kernel_rfl) (by kernel_rfl) (by kernel_rfl) (fun _ _ _ h => of_put _ _ (by decide) (by decide) _ _ _ h) (Or.inr ⟨by rfl, by rfl⟩) ?_
      go_simp
      refine wpAny_take (i := 9) (v := undef) rfl (by kernel_rfl) (by kernel_rfl) (by kernel_rfl) (fun _ _ _ h => of_put _ _ (by decide) (by decide) _ _ _ h) (Or.inr ⟨by rfl, by rfl⟩) ?_
      go_simp
      refine wpAny_take (i := 10) (v := undef) rfl (by kernel_rfl) (by kernel_rfl) (by kernel_rfl) (fun _ _ _ h => of_put _ _ (by decide) (by decide) _ _ _ h) (Or.inr ⟨by rfl, by rfl⟩) ?_
      go_simp
      refine wpAny_take (i := 11) (v := undef) rfl (by kernel_rfl) (by kernel_rfl) (by kernel_rfl) (fun _ _ _ h => of_put _ _ (by decide) (by decide) _ _ _ h) (Or.inr ⟨by rfl, by rfl⟩) ?_
      go_simp
      refine wpAny_take (i := 12) (v := undef) rfl (by kernel_rfl) (by kernel_rfl) (by kernel_rfl) (fun _ _ _ h => of_put _ _ (by decide) (by decide) _ _ _ h) (Or.inr ⟨by rfl, by rfl⟩) ?_
      go_simp
      refine wpAny_take (i := 13) (v := undef) rfl (by kernel_rfl) (by kernel_rfl) (by kernel_rfl) (fun _ _ _ h => of_put _ _ (by decide) (by decide) _ _ _ h) (Or.inr ⟨by rfl, by rfl⟩) ?_
      go_simp
      refine wpAny_take (i := 14) (v := undef) rfl (by kernel_rfl) (by kernel_rfl) (by kernel_rfl) (fun _ _ _ h => of_put _ _ (by decide) (by decide) _ _ _ h) (Or.inr ⟨by rfl, by rfl⟩) ?_
      go_simp
      refine wpAny_take (i := 15) (v := undef) rfl (by kernel_rfl) (by kernel_rfl) (by kernel_rfl) (fun _ _ _ h => of_put _ _ (by decide) (by decide) _ _ _ h) (Or.inr ⟨by rfl, by rfl⟩) ?_
      go_simp
      refine wpAny_take (i := 16) (v := undef) rfl (by kernel_rfl) (by kernel_rfl) (by kernel_rfl) (fun _ _ _ h => of_put _ _ (by decide) (by decide) _ _ _ h) (Or.inr ⟨by rfl, by rfl⟩) ?_
      go_simp
      refine wpAny_take (i := 17) (v := undef) rfl (by kernel_rfl) (by kernel_rfl) (by kernel_rfl) (fun _ _ _ h => of_put _ _ (by decide) (by decide) _ _ _ h) (Or.inr ⟨by rfl, by rfl⟩) ?_
      go_simp
      refine wpAny_take (i := 18) (v := ?_) rfl (by kernel_rfl) (by kernel_rfl) (by kernel_rfl) (fun _ _ _ h => of_put _ _ (by decide) (by decide) _ _ _ h) (Or.inl ⟨by rfl, ?_⟩) ?_
      rotate_left
      · intro W'
        go_simp
        try with_reducible rfl
      go_simp
      refine wpAny_ready (rs := [19]) (by kernel_rfl) (by simp) ?_
      refine AllReady.cons rfl (fun K hK => ?_) AllReady.nil
      go_simp
      go_wp2_with (go_at_call 83; refine (need_bad _).mono ?_; rintro e w3 ⟨rfl, hw3⟩; obtain rfl := hw3.symm; clear hw3)
      have hbw : Below W1.heap.size W1 w2.drew := HB2.out.drew
      exact of_panic bs w _ F E _ H0.out rfl rfl rfl ⟨_, _, _, _, _, (hbw.block F (by have := HSZ.out; have := HFF.out; omega)).trans HWF.out⟩ ((hbw.block E (by have := HSZ.out; have := HEE.out; omega)).trans HWE.out) (HB1.out.trans (hbw.mono HB1.out.size)) HFS.out HES.out
end Go.Proofs.Ytcbnmahbdcjamaa

