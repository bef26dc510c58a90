/- The walk of Fits. -/
import Derived.Test.YtjbhfonokgkalaaReaL
namespace Go.Proofs.Ytjbhfonokgkalaa
open Go.RowKit
set_option linter.unusedVariables false
set_option linter.unusedSimpArgs false

theorem cutI_to (a : Option Addr) (len cap n : Nat) (h : n ≤ cap) (W : World) : (Instr.slice 23 (.slice a len cap) none (some (.int .i64 n)) none).run Try.prog W = .ok (.slice a n cap) W := by
  have h0 : (0 : Int) ≤ (n : Int) := by omega
  have h1 : (n : Int) ≤ (cap : Int) := by omega
  go_simp
theorem cutI_from {w : World} {a : Option Addr} {len cap : Nat} {xs : List Int} (h : Rd .i64 w a len xs) (lo : Nat) (h2 : lo ≤ len) (h3 : len ≤ cap) :
    ∃ a', (∀ W, (Instr.slice 23 (.slice a len cap) (some (.int .i64 lo)) none none).run Try.prog W = .ok (.slice a' (len - lo) (cap - lo)) W) ∧ Rd .i64 w a' (len - lo) (xs.drop lo) ∧ (a' = none → a = none) := by
  refine ⟨if cap = lo then a else a.map (·.add lo), fun W => ?_, ⟨by have := h.1; simp; omega, fun hp => ?_⟩, fun ha => ?_⟩
  · have g0 : (0 : Int) ≤ (lo : Int) := by omega
    have g1 : (lo : Int) ≤ (len : Int) := by omega
    go_simp
  · obtain ⟨b, off, rfl, hc⟩ := h.2 (by omega)
    rw [if_neg (by omega)]
    refine ⟨b, off + lo, by simp [add_lit], fun i hi' => ?_⟩
    rw [show off + lo + i = off + (lo + i) by omega, hc (lo + i) (by omega)]
    simp
  · split at ha
    · exact ha
    · cases a with
      | none => rfl
      | some x => cases ha
/-- A row of the call's own, at a place. -/
theorem own_at {w : World} {B : Nat} {v : Value} {bs : List Bool} (h : w.ownsRow B 4 1 v bs.length (bs.map Value.bool)) (i : Nat) (hi : i < bs.length) : ∃ g c, v = .slice (some ⟨g, 0, none⟩) bs.length c ∧ B ≤ g ∧ w.cell? ⟨g, i, none⟩ = some (.bool (bs.getD i false)) := by
  obtain ⟨a, c, rfl⟩ := own_sl1 h
  obtain ⟨g, rfl, hb, cur, hg, hc⟩ := own_cells1 h (by omega)
  exact ⟨g, c, rfl, hb, by rw [hc i hi]; simp [hi]⟩
theorem endsL_get (n : Nd) (any : Bool) (xs : List Int) (p : Nat) (hp : p ≤ xs.length) : (endsL n any xs).getD p false = endsAt n any (xs.take p).reverse := by
  unfold endsL
  rw [List.getD_eq_getElem?_getD, List.getElem?_map, List.getElem?_range (by omega)]
  rfl
theorem rightL_get (r : Rl) (xs : List Int) (p : Nat) (hp : p ≤ xs.length) : (rightL r xs).getD p false = r.fitR xs p := by
  unfold rightL Rl.fitR
  have hl := endsL_len (r.right.nrm true) true xs.reverse
  rw [List.length_reverse] at hl
  rw [List.getD_eq_getElem?_getD, List.getElem?_reverse (by omega), ← List.getD_eq_getElem?_getD, endsL_get _ _ _ _ (by rw [List.length_reverse]; omega)]
  congr 1
  rw [hl, List.take_reverse, List.reverse_reverse]
  congr 1
  omega

set_option maxHeartbeats 8000000 in
theorem fits_in (d : Nat) (r : Rl) (q : RlP) (xs : List Int) (a : Option Addr) (len cap : Nat) (p : Nat) (w : World) (hr : RlAt w d r q) (hd : d ≤ 131073) (hrd : Rd .i64 w a len xs) (hcap : len ≤ cap) (hnone : a = none → cap = 0) (hl : len ≤ 1000000) (hp : p ≤ len) :
    Calls Try.prog 14 #[.agg (r.vals q), .slice a len cap, .int .i64 p] w fun e w' => e = .returned (.bool (r.fit xs p)) ∧ Below w.heap.size w w' := by
  have hlen := hrd.1
  obtain ⟨W0, hW0⟩ : ∃ W0, W0 = w.alloc (.cells (r.vals q) 35) := ⟨_, rfl⟩
  obtain ⟨H, hH⟩ : ∃ H, H = w.heap.size := ⟨_, rfl⟩
  have HB0 : Hid (Below H w W0) := by rw [hW0, hH]; exact (Below.refl _ w).alloc (Nat.le_refl _) _
  have HS0 : Hid (W0.heap.size = H + 1 ∧ H = w.heap.size) := ⟨by rw [hW0, hH]; simp, hH⟩
  have hbx : W0.heap[H]? = some (.cells (r.vals q) 35) := by rw [hW0, hH]; exact heap_alloc_new w _
  have HBX : Hid (W0.heap[H]? = some (.cells (r.vals q) 35)) := hbx
  obtain ⟨a2, hcut2, hrd2, hn2⟩ := cutI_from hrd p hp hcap
  have hcut1 := cutI_to a len cap p (by omega)
  have HL : Hid (∀ W, Below W0.heap.size W0 W → Calls Try.prog 42 #[.agg (r.vals q), .slice a p cap] W fun e w2 => ∃ g c, e = .returned (.slice (some ⟨g, 0, none⟩) (p + 1) c) ∧ w2.cell? ⟨g, p, none⟩ = some (.bool (r.fitL xs p)) ∧ Below W0.heap.size W0 w2 ∧ w2.heap[H]? = some (.cells (r.vals q) 35)) := by
    intro W hW
    have h0 := HS0.out
    have hbw : Below w.heap.size w W := by rw [← hH]; exact HB0.out.trans (hW.mono (by omega))
    refine (leftFits_any d r q (xs.take p) a p cap W (hr.later hbw) hd ((hrd.take p hp).later hbw) (by omega)).mono ?_
    rintro e w2 ⟨v, rfl, ho, hb⟩
    have hll : (endsL (r.left.nrm false) (!r.start) (xs.take p)).length = p + 1 := by rw [endsL_len]; simp; omega
    obtain ⟨g, c, rfl, _, hc⟩ := own_at ho p (by omega)
    have hb0 : Below W0.heap.size W0 w2 := hW.trans (hb.mono hW.size)
    refine ⟨g, c, by rw [hll], ?_, hb0, (hb0.block H (by omega)).trans HBX.out⟩
    rw [hc, endsL_get _ _ _ _ (by simp; omega), List.take_take, Nat.min_self]
    rfl
  have HR : Hid (∀ W, Below W0.heap.size W0 W → Calls Try.prog 43 #[.agg (r.vals q), .slice a2 (len - p) (cap - p)] W fun e w2 => ∃ g c, e = .returned (.slice (some ⟨g, 0, none⟩) (len - p + 1) c) ∧ w2.cell? ⟨g, 0, none⟩ = some (.bool (r.fitR xs p)) ∧ Below w.heap.size w w2) := by
    intro W hW
    have h0 := HS0.out
    have hbw : Below w.heap.size w W := by rw [← hH]; exact HB0.out.trans (hW.mono (by omega))
    refine (rightFits_any d r q (xs.drop p) a2 (len - p) (cap - p) W (hr.later hbw) hd (hrd2.later hbw) (fun ha => by rw [hnone (hn2 ha)]; omega) (by omega)).mono ?_
    rintro e w2 ⟨v, rfl, ho, hb⟩
    have hll : (rightL r (xs.drop p)).length = len - p + 1 := by rw [rightL_len]; simp; omega
    obtain ⟨g, c, rfl, _, hc⟩ := own_at ho 0 (by omega)
    refine ⟨g, c, by rw [hll], ?_, hbw.trans (hb.mono hbw.size)⟩
    rw [hc, rightL_get _ _ _ (by omega)]
    rfl
  obtain ⟨lv, hlv⟩ : ∃ lv, lv = r.fitL xs p := ⟨_, rfl⟩
  obtain ⟨rv, hrv⟩ : ∃ rv, rv = r.fitR xs p := ⟨_, rfl⟩
  obtain ⟨res, hres⟩ : ∃ res, res = r.fit xs p := ⟨_, rfl⟩
  have HRES : Hid (res = (lv && rv)) := by show res = _; rw [hres, hlv, hrv]; rfl
  rw [← hlv] at HL
  rw [← hrv] at HR
  rw [← hres]
  obtain ⟨lo, hlo⟩ : ∃ lo, lo = r.left.op := ⟨_, rfl⟩
  obtain ⟨ln, hln⟩ : ∃ ln, ln = r.left.cl.length := ⟨_, rfl⟩
  obtain ⟨lk, hlk⟩ : ∃ lk, lk = (toL r.left.kids).length := ⟨_, rfl⟩
  obtain ⟨ro, hro⟩ : ∃ ro, ro = r.right.op := ⟨_, rfl⟩
  obtain ⟨rn, hrn⟩ : ∃ rn, rn = r.right.cl.length := ⟨_, rfl⟩
  obtain ⟨rk, hrk⟩ : ∃ rk, rk = (toL r.right.kids).length := ⟨_, rfl⟩
  obtain ⟨st, hst⟩ : ∃ st, st = r.start := ⟨_, rfl⟩
  obtain ⟨br, hbr⟩ : ∃ br, br = r.brk := ⟨_, rfl⟩
  obtain ⟨la, lc, lp, lpc, ra, rc, rp, rpc⟩ := q
  simp only [Rl.vals, ← hlo, ← hln, ← hlk, ← hro, ← hrn, ← hrk, ← hst, ← hbr] at HL HR HBX hbx hW0 ⊢
  obtain ⟨m, hm⟩ : ∃ m, m = len - p := ⟨_, rfl⟩
  obtain ⟨c2, hc2⟩ : ∃ c2, c2 = cap - p := ⟨_, rfl⟩
  rw [← hm, ← hc2] at HR hcut2
  have hneg : ¬ (p : Int) < 0 := by omega
  have hgt : ¬ (len : Int) < (p : Int) := by omega
  have hp0 : (0 : Int) ≤ (p : Int) := by omega
  have hp1 : (p : Int) < (p : Int) + 1 := by omega
  have hm1 : (0 : Int) < (m : Int) + 1 := by omega
  have HB0' : Hid (∀ W, Below W0.heap.size W0 W → Below w.heap.size w W) := fun W hW => by have h0 := HS0.out; rw [← h0.2]; exact HB0.out.trans (hW.mono (by omega))
  clear hr hd hrd hl hlo hln hlk hro hrn hrk hst hbr HB0 HS0 hnone hlen hcap hrd2 hn2 hlv hrv hres hm hc2 hp
  obtain ⟨b0, b1, b2, b3, b4, b5, b6, b7⟩ := box8 hbx
  have HD : Hid (Below W0.heap.size W0 W0.drew) := (Below.refl _ _).drew
  have HD0 : Hid (Below W0.heap.size W0 W0) := (Below.refl _ _)
  clear hbx
  cases lv with
  | false =>
    have hr0 : res = false := by rw [HRES.out]; rfl
    subst hr0
    clear HR HRES
    go_enter Try.func14, Try.ntmps14
    go_upto_region 3 with fail
    rw [← hH, ← hW0]
    clear hH hW0
    refine wp_region_any (by kernel_rfl) ?_
    try (change wpAny _ _ _ _ _ _ _ (World.drew _))
    refine wpAny_take (i := 1) (v := ?_) rfl (by kernel_rfl) (by kernel_rfl) (by kernel_rfl) (fun _ _ _ h => h) (Or.inl ⟨by rfl, ?_⟩) ?_
    rotate_left
    · intro w; go_simp; try with_reducible rfl
    go_simp
    refine wpAny_take (i := 2) (v := ?_) rfl (by kernel_rfl) (by kernel_rfl) (by kernel_rfl) (fun _ _ _ h => h) (Or.inl ⟨by rfl, ?_⟩) ?_
    rotate_left
    · intro w; go_simp; try with_reducible rfl
    go_simp
    refine wpAny_take (i := 3) (v := ?_) rfl (by kernel_rfl) (by kernel_rfl) (by kernel_rfl) (fun _ _ _ h => h) (Or.inl ⟨by rfl, ?_⟩) ?_
    rotate_left
    · intro w; go_simp; try with_reducible rfl
    go_simp
    refine wpAny_take (i := 5) (v := ?_) rfl (by kernel_rfl) (by kernel_rfl) (by kernel_rfl) (fun _ _ _ h => h) (Or.inl ⟨by rfl, ?_⟩) ?_
    rotate_left
    · intro w; go_simp; try with_reducible rfl
    go_simp
    refine wpAny_ready (rs := [0]) (by kernel_rfl) (by simp) ?_
    refine AllReady.cons rfl (fun K hK => ?_) ?_
    · go_simp
      refine hK _ _ ?_
      clear hK K
      go_simp
      refine wpAny_ready (rs := [4]) (by kernel_rfl) (by simp) ?_
      refine AllReady.cons rfl (fun K hK => ?_) ?_
      · go_simp
        go_wp2_with fail
        refine (HL.out _ HD.out).mono ?_
        rintro e w2 ⟨g, c, rfl, hc, hb2, hx2⟩
        have HB2 : Hid (Below w.heap.size w w2) := HB0'.out w2 hb2
        clear hb2 hx2
        refine hK _ _ ?_
        clear hK K
        go_simp
        refine wpAny_take (i := 6) (v := ?_) rfl (by kernel_rfl) (by kernel_rfl) (by kernel_rfl) (fun _ _ _ h => h) (Or.inl ⟨by rfl, ?_⟩) ?_
        rotate_left
        · intro w; go_simp; try with_reducible rfl
        go_simp
        refine wpAny_ready (rs := [7]) (by kernel_rfl) (by simp) ?_
        refine AllReady.cons rfl (fun K hK => ?_) ?_
        · go_simp
          refine hK _ _ ?_
          clear hK K
          go_simp
          refine wpAny_take (i := 8) (v := ?_) rfl (by kernel_rfl) (by kernel_rfl) (by kernel_rfl) (fun _ _ _ h => h) (Or.inl ⟨by rfl, ?_⟩) ?_
          rotate_left
          · intro w; go_simp; try with_reducible rfl
          go_simp
          refine wpAny_take (i := 9) (v := undef) rfl (by kernel_rfl) (by kernel_rfl) (by kernel_rfl) (fun _ _ _ h => h) (Or.inr ⟨by rfl, rfl⟩) ?_
          go_simp
          refine wpAny_take (i := 10) (v := undef) rfl (by kernel_rfl) (by kernel_rfl) (by kernel_rfl) (fun _ _ _ h => h) (Or.inr ⟨by rfl, rfl⟩) ?_
          go_simp
          refine wpAny_take (i := 11) (v := undef) rfl (by kernel_rfl) (by kernel_rfl) (by kernel_rfl) (fun _ _ _ h => h) (Or.inr ⟨by rfl, rfl⟩) ?_
          go_simp
          refine wpAny_take (i := 12) (v := undef) rfl (by kernel_rfl) (by kernel_rfl) (by kernel_rfl) (fun _ _ _ h => h) (Or.inr ⟨by rfl, rfl⟩) ?_
          go_simp
          refine wpAny_take (i := 13) (v := undef) rfl (by kernel_rfl) (by kernel_rfl) (by kernel_rfl) (fun _ _ _ h => h) (Or.inr ⟨by rfl, rfl⟩) ?_
          go_simp
          refine wpAny_take (i := 14) (v := undef) rfl (by kernel_rfl) (by kernel_rfl) (by kernel_rfl) (fun _ _ _ h => h) (Or.inr ⟨by rfl, rfl⟩) ?_
          go_simp
          refine wpAny_take (i := 15) (v := undef) rfl (by kernel_rfl) (by kernel_rfl) (by kernel_rfl) (fun _ _ _ h => h) (Or.inr ⟨by rfl, rfl⟩) ?_
          go_simp
          refine wpAny_take (i := 16) (v := ?_) rfl (by kernel_rfl) (by kernel_rfl) (by kernel_rfl) (fun _ _ _ h => h) (Or.inl ⟨by rfl, ?_⟩) ?_
          rotate_left
          · intro w; go_simp; try with_reducible rfl
          go_simp
          refine wpAny_take (i := 17) (v := ?_) rfl (by kernel_rfl) (by kernel_rfl) (by kernel_rfl) (fun _ _ _ h => h) (Or.inl ⟨by rfl, ?_⟩) ?_
          rotate_left
          · intro w; go_simp; try with_reducible rfl
          go_simp
          refine wpAny_done (by kernel_rfl) ?_ _
          go_wp2
          go_ret
          exact ⟨rfl, HB2.out⟩
        exact AllReady.nil
      exact AllReady.nil
    exact AllReady.nil
  | true =>
    have hr0 : res = rv := by rw [HRES.out]; rfl
    subst hr0
    clear HRES
    go_enter Try.func14, Try.ntmps14
    go_upto_region 3 with fail
    rw [← hH, ← hW0]
    clear hH hW0
    go_region_with (first
      | (go_at_call 42; refine (HL.out _ (by first | exact HD.out | exact HD0.out)).mono ?_; rintro e w2 ⟨g, c, rfl, hc, hb2, hx2⟩; have HB2 : Hid (Below W0.heap.size W0 w2) := hb2; obtain ⟨y0, y1, y2, y3, y4, y5, y6, y7⟩ := box8 hx2; clear hb2 hx2)
      | (go_at_call 43; refine (HR.out _ HB2.out).mono ?_; rintro e w3 ⟨g3, c3, rfl, hc3, hb3⟩; have HB3 : Hid (Below w.heap.size w w3) := hb3; clear hb3))
    all_goals
      go_wp2
      go_ret
      exact ⟨rfl, HB3.out⟩
end Go.Proofs.Ytjbhfonokgkalaa
