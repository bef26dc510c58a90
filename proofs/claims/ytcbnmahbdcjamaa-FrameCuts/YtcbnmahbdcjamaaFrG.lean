/- The reader of a body in memory; the walks of need, upTo, number, flag, char, id, entry, op: what is read, or a panic. -/
import Derived.Test.YtcbnmahbdcjamaaFrF
import Derived.Defers
import Derived.Recover
namespace Go.Proofs.Ytcbnmahbdcjamaa
open Go.RowKit
set_option linter.unusedVariables false
set_option linter.unusedSimpArgs false

/-- The panic of need. -/
abbrev pnk : Ending := .panicked [{ v := .iface 28 (.int .i64 2), recovered := false }]
theorem need_ok (w : World) : Calls Try.prog 83 #[.bool true] w fun e w' => e = .returned (.tuple #[]) ∧ w' = w := by
  go_enter Try.func83, Try.ntmps83
  go_wp2
  first | go_end0 | go_ret
  exact ⟨rfl, rfl⟩
theorem need_bad (w : World) : Calls Try.prog 83 #[.bool false] w fun e w' => e = pnk ∧ w' = w := by
  go_enter Try.func83, Try.ntmps83
  go_wp2
  exact ⟨rfl, rfl, rfl⟩
/-- A reader at some bytes. -/
def RdrA (W : World) (R K : Nat) (s : List Int) : Prop := Byt s ∧ s.length ≤ 1000000000 ∧ ∃ (a : Option Addr) (c : Nat), W.heap[R]? = some (.cells #[.slice a s.length c] 129) ∧ Rd .u8 W a s.length s ∧ s.length ≤ c ∧ ∀ x, a = some x → x.block = K
theorem cut_from_at {w : World} {a : Option Addr} {len cap : Nat} {xs : List Int} (h : Rd .u8 w a len xs) (lo : Nat) (h2 : lo ≤ len) (h3 : len ≤ cap) :
    ∃ a', (∀ W, (Instr.slice 53 (.slice a len cap) (some (.int .i64 lo)) none none).run Try.prog W = .ok (.slice a' (len - lo) (cap - lo)) W) ∧ Rd .u8 w a' (len - lo) (xs.drop lo) ∧ ∀ x, a' = some x → ∃ y, a = some y ∧ y.block = x.block := by
  refine ⟨if cap = lo then a else a.map (·.add lo), fun W => ?_, ⟨by have := h.1; simp; omega, fun hp => ?_⟩, fun x e => ?_⟩
  · have g0 : (0 : Int) ≤ (lo : Int) := by omega
    have g1 : (lo : Int) ≤ (len : Int) := by omega
    go_simp
  · obtain ⟨b, off, rfl, hc⟩ := h.2 (by omega)
    rw [if_neg (by omega)]
    refine ⟨b, off + lo, by simp [add_lit], fun i hi' => ?_⟩
    rw [show off + lo + i = off + (lo + i) by omega, hc (lo + i) (by omega)]
    simp
  · by_cases hcl : cap = lo
    · rw [if_pos hcl] at e
      exact ⟨x, e, rfl⟩
    · rw [if_neg hcl] at e
      cases a with
      | none => cases e
      | some y =>
        simp only [Option.map_some, Option.some.injEq] at e
        refine ⟨y, rfl, ?_⟩
        rw [← e]
        unfold Addr.add
        split <;> rfl
/-- What a reading function leaves: what it read, and the reader behind that; or a panic. -/
def RdQ (x : Option (Value × List Int)) (R K : Nat) (w : World) (e : Ending) (w' : World) : Prop :=
  Chg w w' (fun k => k = R) ∧ (x = none → e = pnk) ∧ ∀ v r, x = some (v, r) → e = .returned v ∧ RdrA w' R K r
theorem rd_apart {W : World} {R n c' : Nat} {a : Option Addr} {t : TypeId} {s : List Int} {a2 : Option Addr} {n2 : Nat} (h : W.heap[R]? = some (.cells #[.slice a2 n2 c'] t)) (hr : Rd .u8 W a n s) : ∀ b off, a = some ⟨b, off, none⟩ → 0 < n → b ≠ R := by
  rintro b off rfl hn rfl
  obtain ⟨b', off', hb, hc⟩ := hr.2 hn
  cases hb
  have h0 := hc 0 hn
  rw [cell_of_row W b _ _ _ _ h] at h0
  cases hk : off + 0 with
  | zero => rw [hk] at h0; simp at h0
  | succ k => rw [hk] at h0; simp at h0
theorem rd_cg {k : IntKind} {w W : World} {Q : Nat → Prop} {a : Option Addr} {n : Nat} {xs : List Int} (h : Rd k w a n xs) (hc : Chg w W Q) (hq : ∀ b off, a = some ⟨b, off, none⟩ → 0 < n → ¬ Q b) : Rd k W a n xs := by
  refine ⟨h.1, fun hp => ?_⟩
  obtain ⟨b, off, rfl, hcell⟩ := h.2 hp
  exact ⟨b, off, rfl, fun i hi => cg_cell hc (hcell i hi) (hq b off rfl hp)⟩
theorem RdrA.cg {w W : World} {R K : Nat} {s : List Int} {Q : Nat → Prop} (h : RdrA w R K s) (hc : Chg w W Q) (hq : ∀ k, k < w.heap.size → ¬ Q k) : RdrA W R K s := by
  obtain ⟨h1, h2, a, c, h3, h4, h5, h6⟩ := h
  refine ⟨h1, h2, a, c, cg_heap hc h3 (hq _ (Array.getElem?_eq_some_iff.1 h3).1), rd_cg h4 hc (fun b off e hp => ?_), h5, h6⟩
  obtain ⟨b', off', e', hcell⟩ := h4.2 hp
  rw [e] at e'
  cases e'
  exact hq b (World.block_lt_of_cell? w _ (hcell 0 hp))
theorem rdr_lt {w : World} {R K : Nat} {s : List Int} (h : RdrA w R K s) : R < w.heap.size := by
  obtain ⟨_, _, a, c, h3, _⟩ := h
  exact (Array.getElem?_eq_some_iff.1 h3).1
set_option maxRecDepth 100000 in
set_option maxHeartbeats 1000000 in
theorem upTo_any (m : Int) (hm : 0 ≤ m ∧ m ≤ 4294967295) (s : List Int) (R K : Nat) (w : World) (hat : RdrA w R K s) :
    Calls Try.prog 155 #[.pointer (some ⟨R, 0, none⟩), .int .u64 m] w fun e w' => RdQ ((upT m s).map fun p => (.int .i64 p.1, p.2)) R K w e w' := by
  obtain ⟨hb, hl, a, c, hh, hr, hc, hak⟩ := hat
  have k0 : w.cell? ⟨R, 0, none⟩ = some (.slice a s.length c) := cell_of_row w R 0 _ _ _ hh
  have kf : ∀ j, w.frozen? ⟨R, j, none⟩ = false := fun j => Lib.frozen_of_heap hh _
  have kf0 := kf 0
  have HG : Hid (∀ W : World, W = w → Calls Try.prog 177 #[.slice a s.length c] W fun e w' => e = .returned (.tuple #[.int .u64 (ga s).1, .int .i64 (ga s).2.1, .bool (ga s).2.2]) ∧ w' = W) := fun W h => by
    subst h
    exact get_any s a s.length c _ hb hr (by omega)
  cases hg : gt s with
  | none =>
    have e : ga s = (0, 0, false) := ga_none s hg
    rw [e] at HG
    have hu : upT m s = none := by unfold upT; rw [hg]
    rw [hu]
    clear e hu hg hr hb hak
    generalize s.length = n at *
    go_enter Try.func155, Try.ntmps155
    go_wp2_with (first
      | (go_at_call 177; refine (HG.out _ rfl).mono ?_; rintro e w2 ⟨rfl, hw2⟩; obtain rfl := hw2.symm; clear hw2)
      | (go_at_call 83; refine (need_bad _).mono ?_; rintro e w2 ⟨rfl, hw2⟩; obtain rfl := hw2.symm; clear hw2))
    exact ⟨rfl, cg_refl _ _, (fun _ => rfl), fun v r h => by cases h⟩
  | some p =>
    obtain ⟨v, n⟩ := p
    obtain ⟨v0, v1, hnl, _, hn1⟩ := gt_inv s v n hb hg
    have e : ga s = (v, (n : Int), true) := ga_some s v n hg
    rw [e] at HG
    by_cases hv : v ≤ m
    · have hu : upT m s = some (v, s.drop n) := by unfold upT; rw [hg]; exact if_pos hv
      rw [hu]
      obtain ⟨a', hcut, hrd, hat'⟩ := cut_from_at hr n hnl hc
      have hw : IntKind.i64.wrap v = v := by rw [IntKind.wrap_i64]; omega
      have HF : Hid (∀ W : World, W = w.setCell ⟨R, 0, none⟩ (.slice a' (s.length - n) (c - n)) → Chg w W (fun k => k = R) ∧ RdrA W R K (s.drop n)) := by
        intro W hW
        subst hW
        have hcg := cg_set w R 0 (.slice a' (s.length - n) (c - n))
        have hdl : (s.drop n).length = s.length - n := by simp
        refine ⟨hcg, hb.drop n, by omega, a', c - n, ?_, ?_, by omega, fun x e => ?_⟩
        · have := heap_setX w R 0 (.slice a' (s.length - n) (c - n)) _ _ _ hh
          rw [this, hdl]
          rfl
        · rw [hdl]
          exact rd_cg hrd hcg (rd_apart hh hrd)
        · obtain ⟨y, e', hy⟩ := hat' x e
          rw [← hy]
          exact hak y e'
      generalize s.drop n = S' at *
      clear e hu hg hr hb hrd hn1 hat' hak
      generalize s.length = L at *
      go_enter Try.func155, Try.ntmps155
      go_wp2_with (first
        | (go_at_call 177; refine (HG.out _ rfl).mono ?_; rintro e w2 ⟨rfl, hw2⟩; obtain rfl := hw2.symm; clear hw2)
        | (go_at_call 83; refine (need_ok _).mono ?_; rintro e w2 ⟨rfl, hw2⟩; obtain rfl := hw2.symm; clear hw2))
      go_ret
      obtain ⟨f1, f2⟩ := HF.out _ rfl
      refine ⟨f1, (fun h => by cases h), fun v' r h => ?_⟩
      cases h
      exact ⟨rfl, f2⟩
    · have hu : upT m s = none := by unfold upT; rw [hg]; exact if_neg hv
      rw [hu]
      have hd : decide (v ≤ m) = false := decide_eq_false hv
      clear e hu hg hr hb hn1 hak
      generalize s.length = L at *
      go_enter Try.func155, Try.ntmps155
      go_wp2_with (first
        | (go_at_call 177; refine (HG.out _ rfl).mono ?_; rintro e w2 ⟨rfl, hw2⟩; obtain rfl := hw2.symm; clear hw2)
        | (go_at_call 83; refine (need_bad _).mono ?_; rintro e w2 ⟨rfl, hw2⟩; obtain rfl := hw2.symm; clear hw2))
      exact ⟨rfl, cg_refl _ _, (fun _ => rfl), fun v r h => by cases h⟩
set_option maxRecDepth 100000 in
theorem number_rd (s : List Int) (R K : Nat) (w : World) (hat : RdrA w R K s) :
    Calls Try.prog 133 #[.pointer (some ⟨R, 0, none⟩)] w fun e w' => RdQ ((nuT s).map fun p => (.int .i64 p.1, p.2)) R K w e w' := by
  have HU : Hid (Calls Try.prog 155 #[.pointer (some ⟨R, 0, none⟩), .int .u64 4294967295] w fun e w' => RdQ ((upT 4294967295 s).map fun p => (.int .i64 p.1, p.2)) R K w e w') := upTo_any 4294967295 (by decide) s R K w hat
  show Calls _ _ _ _ fun e w' => RdQ ((upT 4294967295 s).map fun p => (.int .i64 p.1, p.2)) R K w e w'
  clear hat
  cases hu : upT 4294967295 s with
  | none =>
    rw [hu] at HU
    go_enter Try.func133, Try.ntmps133
    go_wp2_with (go_at_call 155; refine HU.out.mono ?_; rintro e w2 ⟨hc, hp, _⟩; obtain rfl := hp rfl; have HC : Hid (Chg w w2 (fun k => k = R)) := hc; clear hc hp)
    exact ⟨rfl, HC.out, (fun _ => rfl), fun v r h => by cases h⟩
  | some p =>
    obtain ⟨v, r⟩ := p
    rw [hu] at HU
    go_enter Try.func133, Try.ntmps133
    go_wp2_with (go_at_call 155; refine HU.out.mono ?_; rintro e w2 ⟨hc, _, hp⟩; obtain ⟨rfl, hq⟩ := hp _ _ rfl; have HC : Hid (Chg w w2 (fun k => k = R) ∧ RdrA w2 R K r) := ⟨hc, hq⟩; clear hc hp hq)
    go_ret
    refine ⟨HC.out.1, (fun h => by cases h), fun v' r' h => ?_⟩
    cases h
    exact ⟨rfl, HC.out.2⟩
set_option maxRecDepth 100000 in
theorem flag_rd (s : List Int) (R K : Nat) (w : World) (hat : RdrA w R K s) :
    Calls Try.prog 157 #[.pointer (some ⟨R, 0, none⟩)] w fun e w' => RdQ ((upT 1 s).map fun p => (.bool (decide (p.1 = 1)), p.2)) R K w e w' := by
  have HU : Hid (Calls Try.prog 155 #[.pointer (some ⟨R, 0, none⟩), .int .u64 1] w fun e w' => RdQ ((upT 1 s).map fun p => (.int .i64 p.1, p.2)) R K w e w') := upTo_any 1 (by decide) s R K w hat
  clear hat
  cases hu : upT 1 s with
  | none =>
    rw [hu] at HU
    go_enter Try.func157, Try.ntmps157
    go_wp2_with (go_at_call 155; refine HU.out.mono ?_; rintro e w2 ⟨hc, hp, _⟩; obtain rfl := hp rfl; have HC : Hid (Chg w w2 (fun k => k = R)) := hc; clear hc hp)
    exact ⟨rfl, HC.out, (fun _ => rfl), fun v r h => by cases h⟩
  | some p =>
    obtain ⟨v, r⟩ := p
    rw [hu] at HU
    have hz : (v == 1) = decide (v = 1) := by rw [Bool.eq_iff_iff]; simp
    generalize hzz : decide (v = 1) = z at hz
    have HZ : Hid (decide (v = 1) = z) := hzz
    clear hzz
    go_enter Try.func157, Try.ntmps157
    go_wp2_with (go_at_call 155; refine HU.out.mono ?_; rintro e w2 ⟨hc, _, hp⟩; obtain ⟨rfl, hq⟩ := hp _ _ rfl; have HC : Hid (Chg w w2 (fun k => k = R) ∧ RdrA w2 R K r) := ⟨hc, hq⟩; clear hc hp hq)
    go_ret
    refine ⟨HC.out.1, (fun h => by cases h), fun v' r' h => ?_⟩
    simp only [Option.map_some, Option.some.injEq, Prod.mk.injEq] at h
    obtain ⟨rfl, rfl⟩ := h
    exact ⟨by simp [HZ.out], HC.out.2⟩
set_option maxRecDepth 100000 in
theorem char_rd (s : List Int) (R K : Nat) (w : World) (hat : RdrA w R K s) :
    Calls Try.prog 158 #[.pointer (some ⟨R, 0, none⟩)] w fun e w' => RdQ ((upT 1114111 s).map fun p => (.int .i32 p.1, p.2)) R K w e w' := by
  have HU : Hid (Calls Try.prog 155 #[.pointer (some ⟨R, 0, none⟩), .int .u64 1114111] w fun e w' => RdQ ((upT 1114111 s).map fun p => (.int .i64 p.1, p.2)) R K w e w') := upTo_any 1114111 (by decide) s R K w hat
  have hbyt := hat.1
  clear hat
  cases hu : upT 1114111 s with
  | none =>
    rw [hu] at HU
    go_enter Try.func158, Try.ntmps158
    go_wp2_with (go_at_call 155; refine HU.out.mono ?_; rintro e w2 ⟨hc, hp, _⟩; obtain rfl := hp rfl; have HC : Hid (Chg w w2 (fun k => k = R)) := hc; clear hc hp)
    exact ⟨rfl, HC.out, (fun _ => rfl), fun v r h => by cases h⟩
  | some p =>
    obtain ⟨v, r⟩ := p
    obtain ⟨_, v0, v1, _⟩ := upT_inv _ s hbyt v r hu
    rw [hu] at HU
    have hw : IntKind.i32.wrap v = v := by rw [IntKind.wrap_i32]; omega
    clear hu hbyt
    go_enter Try.func158, Try.ntmps158
    go_wp2_with (go_at_call 155; refine HU.out.mono ?_; rintro e w2 ⟨hc, _, hp⟩; obtain ⟨rfl, hq⟩ := hp _ _ rfl; have HC : Hid (Chg w w2 (fun k => k = R) ∧ RdrA w2 R K r) := ⟨hc, hq⟩; clear hc hp hq)
    go_ret
    refine ⟨HC.out.1, (fun h => by cases h), fun v' r' h => ?_⟩
    simp only [Option.map_some, Option.some.injEq, Prod.mk.injEq] at h
    obtain ⟨rfl, rfl⟩ := h
    exact ⟨by first | rfl | (simp [hw]), HC.out.2⟩
end Go.Proofs.Ytcbnmahbdcjamaa
