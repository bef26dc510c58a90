/- The walks of IndexFunc over rules, and of Which. -/
import Derived.Test.YtjbhfonokgkalaaReaO
namespace Go.Proofs.Ytjbhfonokgkalaa
open Go.RowKit
set_option linter.unusedVariables false
set_option linter.unusedSimpArgs false

/-- A row of rules in memory, their sides no deeper than that. -/
def RowR (w : World) (d : Nat) (a : Option Addr) (n : Nat) (l : List Rl) : Prop :=
  l.length = n ∧ ∀ i (hi : i < l.length), ∃ b off q, a = some ⟨b, off, none⟩ ∧ RlAt w d l[i] q ∧ ∀ j v, (l[i].vals q)[j]? = some v → w.cell? ⟨b, off + i * 8 + j, none⟩ = some v
theorem RowR.later {w w' : World} {d : Nat} {a : Option Addr} {n : Nat} {l : List Rl} (h : RowR w d a n l) (hb : Below w.heap.size w w') : RowR w' d a n l := by
  refine ⟨h.1, fun i hi => ?_⟩
  obtain ⟨b, off, q, h1, h2, h3⟩ := h.2 i hi
  exact ⟨b, off, q, h1, h2.later hb, fun j v hv => (hb.cell (World.block_lt_of_cell? w _ (h3 j v hv))).trans (h3 j v hv)⟩
theorem RowR.cells {w : World} {d : Nat} {a : Option Addr} {n : Nat} {l : List Rl} (h : RowR w d a n l) (i : Nat) (hi : i < l.length) : ∃ b off q, a = some ⟨b, off, none⟩ ∧ RlAt w d l[i] q ∧
    w.cell? ⟨b, off + i * 8, none⟩ = some (.int .i64 l[i].left.op) ∧ w.cell? ⟨b, off + i * 8 + 1, none⟩ = some (.slice q.la l[i].left.cl.length q.lc) ∧ w.cell? ⟨b, off + i * 8 + 2, none⟩ = some (.slice q.lp (toL l[i].left.kids).length q.lpc) ∧
    w.cell? ⟨b, off + i * 8 + 3, none⟩ = some (.int .i64 l[i].right.op) ∧ w.cell? ⟨b, off + i * 8 + 4, none⟩ = some (.slice q.ra l[i].right.cl.length q.rc) ∧ w.cell? ⟨b, off + i * 8 + 5, none⟩ = some (.slice q.rp (toL l[i].right.kids).length q.rpc) ∧
    w.cell? ⟨b, off + i * 8 + 6, none⟩ = some (.bool l[i].brk) ∧ w.cell? ⟨b, off + i * 8 + 7, none⟩ = some (.bool l[i].start) := by
  obtain ⟨b, off, q, h1, h2, h3⟩ := h.2 i hi
  exact ⟨b, off, q, h1, h2, h3 0 _ rfl, h3 1 _ rfl, h3 2 _ rfl, h3 3 _ rfl, h3 4 _ rfl, h3 5 _ rfl, h3 6 _ rfl, h3 7 _ rfl⟩

set_option maxHeartbeats 4000000 in
theorem whichC_any (d : Nat) (r : Rl) (q : RlP) (xs : List Int) (a : Option Addr) (len cap : Nat) (p : Int) (b1 b2 : Nat) (w : World) (hr : RlAt w d r q) (hd : d ≤ 131073) (hrd : Rd .i64 w a len xs) (hcap : len ≤ cap) (hnone : a = none → cap = 0) (hl : len ≤ 1000000)
    (c1 : w.cell? ⟨b1, 0, none⟩ = some (.slice a len cap)) (c2 : w.cell? ⟨b2, 0, none⟩ = some (.int .i64 p)) :
    Calls Try.prog 45 #[.agg (r.vals q), .pointer (some ⟨b1, 0, none⟩), .pointer (some ⟨b2, 0, none⟩)] w fun e w' => e = .returned (.bool (fitI r xs p)) ∧ Below w.heap.size w w' := by
  have HC : Hid (∀ W, Below w.heap.size w W → Calls Try.prog 14 #[.agg (r.vals q), .slice a len cap, .int .i64 p] W fun e w' => e = .returned (.bool (fitI r xs p)) ∧ Below W.heap.size W w') := fun W hW => fits_any d r q xs a len cap p W (hr.later hW) hd (hrd.later hW) hcap hnone hl
  obtain ⟨W0, hW0⟩ : ∃ W0, W0 = w.alloc (.cells (r.vals q) 35) := ⟨_, rfl⟩
  obtain ⟨H, hH⟩ : ∃ H, H = w.heap.size := ⟨_, rfl⟩
  have HB0 : Hid (Below w.heap.size w W0) := by rw [hW0]; exact (Below.refl _ w).alloc (Nat.le_refl _) _
  have hbx : W0.heap[H]? = some (.cells (r.vals q) 35) := by rw [hW0, hH]; exact heap_alloc_new w _
  have e1 : W0.cell? ⟨b1, 0, none⟩ = some (.slice a len cap) := (HB0.out.cell (World.block_lt_of_cell? w _ c1)).trans c1
  have e2 : W0.cell? ⟨b2, 0, none⟩ = some (.int .i64 p) := (HB0.out.cell (World.block_lt_of_cell? w _ c2)).trans c2
  obtain ⟨res, hres⟩ : ∃ res, res = fitI r xs p := ⟨_, rfl⟩
  rw [← hres] at HC ⊢
  obtain ⟨la, lc, lp, lpc, ra, rc, rp, rpc⟩ := q
  obtain ⟨lo, hlo⟩ : ∃ lo, lo = r.left.op := ⟨_, rfl⟩
  obtain ⟨ln, hln⟩ : ∃ ln, ln = r.left.cl.length := ⟨_, rfl⟩
  obtain ⟨lk, hlk⟩ : ∃ lk, lk = (toL r.left.kids).length := ⟨_, rfl⟩
  obtain ⟨ro, hro⟩ : ∃ ro, ro = r.right.op := ⟨_, rfl⟩
  obtain ⟨rn, hrn⟩ : ∃ rn, rn = r.right.cl.length := ⟨_, rfl⟩
  obtain ⟨rk, hrk⟩ : ∃ rk, rk = (toL r.right.kids).length := ⟨_, rfl⟩
  obtain ⟨st, hst⟩ : ∃ st, st = r.start := ⟨_, rfl⟩
  obtain ⟨br, hbr⟩ : ∃ br, br = r.brk := ⟨_, rfl⟩
  simp only [Rl.vals, ← hlo, ← hln, ← hlk, ← hro, ← hrn, ← hrk, ← hst, ← hbr] at HC hbx hW0 ⊢
  obtain ⟨s0, s1, s2, s3, s4, s5, s6, s7⟩ := box8 hbx
  clear hr hd hrd hcap hnone hl c1 c2 hbx hres hlo hln hlk hro hrn hrk hst hbr
  go_enter Try.func45, Try.ntmps45
  go_upto_region 1 with fail
  rw [← hH, ← hW0]
  clear hH hW0
  go_wp2_with fail
  refine (HC.out W0 HB0.out).mono ?_
  rintro e w2 ⟨rfl, hb2⟩
  have HB2 : Hid (Below w.heap.size w w2) := HB0.out.trans (hb2.mono HB0.out.size)
  clear hb2
  go_wp2
  go_ret
  exact ⟨rfl, HB2.out⟩

set_option maxHeartbeats 4000000 in
theorem indexR_any (d : Nat) (l : List Rl) (xs : List Int) (al a : Option Addr) (n c len cap : Nat) (p : Int) (b1 b2 : Nat) (w : World) (hrow : RowR w d al n l) (hn : n ≤ 1000000) (hd : d ≤ 131073) (hrd : Rd .i64 w a len xs) (hcap : len ≤ cap) (hnone : a = none → cap = 0) (hl : len ≤ 1000000)
    (c1 : w.cell? ⟨b1, 0, none⟩ = some (.slice a len cap)) (c2 : w.cell? ⟨b2, 0, none⟩ = some (.int .i64 p)) :
    Calls Try.prog 44 #[.slice al n c, .func (.func 45) #[] #[.pointer (some ⟨b1, 0, none⟩), .pointer (some ⟨b2, 0, none⟩)]] w fun e w' => e = .returned (.int .i64 (firstI (fun r => fitI r xs p) l)) ∧ Below w.heap.size w w' := by
  have HC : Hid (∀ r q W, Below w.heap.size w W → RlAt W d r q → Calls Try.prog 45 #[.agg (r.vals q), .pointer (some ⟨b1, 0, none⟩), .pointer (some ⟨b2, 0, none⟩)] W fun e w' => e = .returned (.bool (fitI r xs p)) ∧ Below W.heap.size W w') := fun r q W hW hr =>
    whichC_any d r q xs a len cap p b1 b2 W hr hd (hrd.later hW) hcap hnone hl ((hW.cell (World.block_lt_of_cell? w _ c1)).trans c1) ((hW.cell (World.block_lt_of_cell? w _ c2)).trans c2)
  have HD : Hid (RowR w d al n l) := hrow
  have HL : Hid (l.length = n) := hrow.1
  obtain ⟨R, hR⟩ : ∃ R, R = firstI (fun r => fitI r xs p) l := ⟨_, rfl⟩
  rw [← hR]
  have HR : Hid (R = firstI (fun r => fitI r xs p) l) := hR
  have hni : (n : Int) ≤ 1000000 := by omega
  clear hrow hR hd hrd hcap hnone hl c1 c2 hn
  go_enter Try.func44, Try.ntmps44
  go_wp2
  go_loopw [8] (fun x8 wr => ∃ k : Nat, k ≤ n ∧ x8 = .int .i64 k ∧ (∀ j (hj : j < l.length), j < k → fitI l[j] xs p = false) ∧ Below w.heap.size w wr) (fun x8 _ => n - (intOf x8).toNat)
  case atStart => exact ⟨0, by omega, rfl, fun j _ hj => absurd hj (by omega), Below.refl _ _⟩
  case round =>
    obtain ⟨k, hk, hx8, hat, hbl⟩ := hrel
    subst hx8
    have HA : Hid (∀ j (hj : j < l.length), j < k → fitI l[j] xs p = false) := hat
    have HBL : Hid (Below w.heap.size w wr) := hbl
    clear hat hbl
    by_cases hlt : k < n
    · have hkl : k < l.length := by rw [HL.out]; exact hlt
      obtain ⟨b, off, q, rfl, hr, t0, t1, t2, t3, t4, t5, t6, t7⟩ := (HD.out.later HBL.out).cells k hkl
      obtain ⟨B, hB⟩ : ∃ B, B = fitI l[k] xs p := ⟨_, rfl⟩
      have HBB : Hid (B = fitI l[k] xs p) := hB
      have HCC : Hid (Calls Try.prog 45 #[.agg (l[k].vals q), .pointer (some ⟨b1, 0, none⟩), .pointer (some ⟨b2, 0, none⟩)] wr fun x w' => x = .returned (.bool B) ∧ Below wr.heap.size wr w') := by rw [hB]; exact HC.out l[k] q wr HBL.out hr
      obtain ⟨la, lc, lp, lpc, ra, rc, rp, rpc⟩ := q
      obtain ⟨r, hrr⟩ : ∃ r, r = l[k] := ⟨_, rfl⟩
      rw [← hrr] at t0 t1 t2 t3 t4 t5 t6 t7 HCC
      obtain ⟨lo, hlo⟩ : ∃ lo, lo = r.left.op := ⟨_, rfl⟩
      obtain ⟨ln, hln⟩ : ∃ ln, ln = r.left.cl.length := ⟨_, rfl⟩
      obtain ⟨lk, hlk⟩ : ∃ lk, lk = (toL r.left.kids).length := ⟨_, rfl⟩
      obtain ⟨ro, hro⟩ : ∃ ro, ro = r.right.op := ⟨_, rfl⟩
      obtain ⟨rn, hrn⟩ : ∃ rn, rn = r.right.cl.length := ⟨_, rfl⟩
      obtain ⟨rk, hrk⟩ : ∃ rk, rk = (toL r.right.kids).length := ⟨_, rfl⟩
      obtain ⟨st, hst⟩ : ∃ st, st = r.start := ⟨_, rfl⟩
      obtain ⟨br, hbr⟩ : ∃ br, br = r.brk := ⟨_, rfl⟩
      simp only [Rl.vals, ← hlo, ← hln, ← hlk, ← hro, ← hrn, ← hrk, ← hst, ← hbr] at HCC t0 t1 t2 t3 t4 t5 t6 t7
      clear hB hr hrr hlo hln hlk hro hrn hrk hst hbr
      go_wp2_with fail
      refine HCC.out.mono ?_
      rintro x w2 ⟨rfl, hb2⟩
      have HB2 : Hid (Below w.heap.size w w2) := HBL.out.trans (hb2.mono HBL.out.size)
      clear hb2 t0 t1 t2 t3 t4 t5 t6 t7
      cases B with
      | true =>
        have hR : R = k := HR.out.trans (firstI_at _ l k hkl (fun j hj => HA.out j (by omega) hj) HBB.out.symm)
        subst hR
        go_wp2
        go_ret
        exact ⟨rfl, HB2.out⟩
      | false =>
        go_wp2
        go_roundw
        case rel =>
          refine ⟨k + 1, by omega, by go_num, fun j hj hj2 => ?_, HB2.out⟩
          rcases Nat.lt_or_ge j k with h | h
          · exact HA.out j hj h
          · obtain rfl : j = k := by omega
            exact HBB.out.symm
        case measure => simp [intOf]; omega
    · have hR : R = -1 := HR.out.trans (firstI_no _ l (fun x hx => by
        obtain ⟨j, hj, rfl⟩ := List.mem_iff_getElem.1 hx
        exact HA.out j hj (by rw [HL.out] at hj; omega)))
      subst hR
      go_wp2
      go_ret
      exact ⟨rfl, HBL.out⟩

set_option maxHeartbeats 4000000 in
theorem which_any (d : Nat) (l : List Rl) (xs : List Int) (al a : Option Addr) (n c len cap : Nat) (p : Int) (w : World) (hrow : RowR w d al n l) (hn : n ≤ 1000000) (hd : d ≤ 131073) (hrd : Rd .i64 w a len xs) (hcap : len ≤ cap) (hnone : a = none → cap = 0) (hl : len ≤ 1000000) :
    Calls Try.prog 16 #[.slice al n c, .slice a len cap, .int .i64 p] w fun e w' => e = .returned (.int .i64 (firstI (fun r => fitI r xs p) l)) ∧ Below w.heap.size w w' := by
  obtain ⟨W0, hW0⟩ : ∃ W0, W0 = (w.alloc (.cells #[.slice a len cap] 23)).alloc (.cells #[.int .i64 p] 3) := ⟨_, rfl⟩
  obtain ⟨H, hH⟩ : ∃ H, H = w.heap.size := ⟨_, rfl⟩
  obtain ⟨H1, hH1⟩ : ∃ H1, H1 = w.heap.size + 1 := ⟨_, rfl⟩
  have HB0 : Hid (Below w.heap.size w W0) := by rw [hW0]; exact ((Below.refl _ w).alloc (Nat.le_refl _) _).alloc (by simp) _
  have e1 : W0.cell? ⟨H, 0, none⟩ = some (.slice a len cap) := by rw [hW0, hH]; exact cell_of_row _ _ 0 _ _ _ (new_at1 w _ _)
  have e2 : W0.cell? ⟨H1, 0, none⟩ = some (.int .i64 p) := by rw [hW0, hH1]; exact cell_of_row _ _ 0 _ _ _ (new_at2 w _ _)
  have HC : Hid (Calls Try.prog 44 #[.slice al n c, .func (.func 45) #[] #[.pointer (some ⟨H, 0, none⟩), .pointer (some ⟨H1, 0, none⟩)]] W0 fun e w' => e = .returned (.int .i64 (firstI (fun r => fitI r xs p) l)) ∧ Below W0.heap.size W0 w') := indexR_any d l xs al a n c len cap p H H1 W0 (hrow.later HB0.out) hn hd (hrd.later HB0.out) hcap hnone hl e1 e2
  obtain ⟨R, hR⟩ : ∃ R, R = firstI (fun r => fitI r xs p) l := ⟨_, rfl⟩
  rw [← hR] at HC ⊢
  clear hrow hn hd hrd hcap hnone hl hR e1 e2
  go_enter Try.func16, Try.ntmps16
  go_upto_region 1 with fail
  rw [← hH1, ← hH, ← hW0]
  clear hH hH1 hW0
  go_wp2_with fail
  refine HC.out.mono ?_
  rintro e w2 ⟨rfl, hb2⟩
  have HB2 : Hid (Below w.heap.size w w2) := HB0.out.trans (hb2.mono HB0.out.size)
  clear hb2
  go_wp2
  go_ret
  exact ⟨rfl, HB2.out⟩
end Go.Proofs.Ytjbhfonokgkalaa
