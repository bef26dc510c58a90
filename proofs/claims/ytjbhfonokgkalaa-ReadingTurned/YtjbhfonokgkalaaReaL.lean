/- The walk of rightFits. -/
import Derived.Test.YtjbhfonokgkalaaReaK
namespace Go.Proofs.Ytjbhfonokgkalaa
open Go.RowKit
set_option linter.unusedVariables false
set_option linter.unusedSimpArgs false

/-- What rightFits tells. -/
def rightL (r : Rl) (xs : List Int) : List Bool := (endsL (r.right.nrm true) true xs.reverse).reverse
theorem rightL_len (r : Rl) (xs : List Int) : (rightL r xs).length = xs.length + 1 := by simp [rightL, endsL]
set_option maxHeartbeats 4000000 in
theorem rightFits_any (d : Nat) (r : Rl) (q : RlP) (xs : List Int) (a : Option Addr) (len cap : Nat) (w : World) (hr : RlAt w d r q) (hd : d ≤ 131073) (hrd : Rd .i64 w a len xs) (hnone : a = none → cap = 0) (hl : len ≤ 1000000) :
    Calls Try.prog 43 #[.agg (r.vals q), .slice a len cap] w (RowPost (rightL r xs) w) := by
  have hlen := hrd.1
  obtain ⟨W0, hW0⟩ : ∃ W0, W0 = w.alloc (.cells (r.vals q) 35) := ⟨_, rfl⟩
  obtain ⟨H, hH⟩ : ∃ H, H = w.heap.size := ⟨_, rfl⟩
  have HB0 : Hid (Below H w W0) := by rw [hW0, hH]; exact (Below.refl _ w).alloc (Nat.le_refl _) _
  have HS0 : Hid (W0.heap.size = H + 1 ∧ H = w.heap.size) := ⟨by rw [hW0, hH]; simp, hH⟩
  have hbx : W0.heap[H]? = some (.cells (r.vals q) 35) := by rw [hW0, hH]; exact heap_alloc_new w _
  have HBX : Hid (W0.heap[H]? = some (.cells (r.vals q) 35)) := hbx
  have HC1 : Hid (Calls Try.prog 60 #[.slice a len cap] W0 fun e w1 => ∃ a1 c1, e = .returned (.slice a1 len c1) ∧
      Hid (Calls Try.prog 61 #[.slice a1 len c1] w1 fun e w2 => e = .returned (.tuple #[]) ∧ w2.heap[H]? = some (.cells (r.vals q) 35) ∧
        Hid (Calls Try.prog 59 #[.agg #[.int .i64 r.right.op, .slice q.ra r.right.cl.length q.rc, .slice q.rp (toL r.right.kids).length q.rpc], .bool true] w2 fun e w3 => ∃ zo za zn zc ka kn kc zm ze, e = .returned (.agg #[.int .i64 zo, .slice za zn zc, .slice ka kn kc, .bool zm, .bool ze]) ∧
          Hid (Calls Try.prog 58 #[.agg #[.int .i64 zo, .slice za zn zc, .slice ka kn kc, .bool zm, .bool ze], .slice a1 len c1, .bool true] w3 fun e w4 => ∃ v, e = .returned v ∧
            Hid (Calls Try.prog 62 #[v] w4 fun e w5 => e = .returned (.tuple #[]) ∧ RowPost (rightL r xs) w (.returned v) w5))))) := by
    have h0 := HS0.out
    refine (cloneI_any xs a len cap W0 (hrd.later (by rw [← hH]; exact HB0.out)) hnone (by omega)).mono ?_
    rintro e w1 ⟨v1, rfl, ho1, hb1⟩
    obtain ⟨a1, c1, rfl, _, _, _, hn1⟩ := rd_own2 ho1
    refine ⟨a1, c1, rfl, ?_⟩
    have ho1' : w1.ownsRow W0.heap.size 3 1 (.slice a1 xs.length c1) xs.length (xs.map (Value.int .i64)) := by rw [hlen]; exact ho1
    have hrv := revI_any xs (.slice a1 xs.length c1) W0.heap.size w1 ho1' (by omega)
    rw [hlen] at hrv
    refine hrv.mono ?_
    rintro e w2 ⟨rfl, hg2, ho2⟩
    have hb2 : Below W0.heap.size W0 w2 := hb1.grown hg2 hb1.size (fun k hk => (ho1.lt k hk).1)
    have hbw : Below H w w2 := HB0.out.trans (hb2.mono (by omega))
    refine ⟨rfl, (hb2.block H (by omega)).trans HBX.out, ?_⟩
    obtain ⟨a1', c1', he, _, _, hrd2, _⟩ := rd_own2 ho2
    cases he
    have hin : InV w2.heap.size w2 d r.right [.int .i64 r.right.op, .slice q.ra r.right.cl.length q.rc, .slice q.rp (toL r.right.kids).length q.rpc] := (hr.2.later (by rw [← hH]; exact hbw) d).base (by rw [← hH]; have := hbw.size; omega) d
    refine (markedOf_any w2.heap.size d true r.right q.ra q.rp q.rc q.rpc w2 hin (Nat.le_refl _) hd).mono ?_
    rintro e w3 ⟨hb3, ⟨zo, za, zn, zc, ka, kn, kc, zm, ze⟩, fp, rfl, hfp, hnd⟩
    refine ⟨zo, za, zn, zc, ka, kn, kc, zm, ze, rfl, ?_⟩
    refine (ends_of (w0 := w) (t := true) (any := true) (cap := c1) (B := w2.heap.size) (w := w2) (Nat.le_refl _) hb3 hfp hnd hrd2 hrd2.lt hl).mono ?_
    rintro e w4 ⟨v, rfl, h1, h2⟩
    refine ⟨v, rfl, ?_⟩
    refine (revB_any (endsL (r.right.nrm true) true xs.reverse) v w2.heap.size w4 h1 (by rw [endsL_len]; simp; omega)).mono ?_
    rintro e w5 ⟨rfl, hg5, ho5⟩
    have hs2 := hbw.size
    have hs3 := hb3.size
    have hs4 := h2.size
    refine ⟨rfl, v, rfl, ?_, ?_⟩
    · rw [rightL_len]
      rw [endsL_len, List.length_reverse] at ho5
      exact own_base ho5 (by omega)
    · have hb4 : Below H w w4 := (hbw.trans (hb3.mono (by omega))).trans (h2.mono (by omega))
      rw [← h0.2]
      exact hb4.grown hg5 (by omega) (fun k hk => by have := (h1.lt k hk).1; omega)
  obtain ⟨lo, hlo⟩ : ∃ lo, lo = r.left.op := ⟨_, rfl⟩
  obtain ⟨ln, hln⟩ : ∃ ln, ln = r.left.cl.length := ⟨_, rfl⟩
  obtain ⟨lk, hlk⟩ : ∃ lk, lk = (toL r.left.kids).length := ⟨_, rfl⟩
  obtain ⟨ro, hro⟩ : ∃ ro, ro = r.right.op := ⟨_, rfl⟩
  obtain ⟨rn, hrn⟩ : ∃ rn, rn = r.right.cl.length := ⟨_, rfl⟩
  obtain ⟨rk, hrk⟩ : ∃ rk, rk = (toL r.right.kids).length := ⟨_, rfl⟩
  obtain ⟨st, hst⟩ : ∃ st, st = r.start := ⟨_, rfl⟩
  obtain ⟨br, hbr⟩ : ∃ br, br = r.brk := ⟨_, rfl⟩
  obtain ⟨bs, hbs⟩ : ∃ bs, bs = rightL r xs := ⟨_, rfl⟩
  rw [← hbs] at HC1 ⊢
  obtain ⟨la, lc, lp, lpc, ra, rc, rp, rpc⟩ := q
  simp only [Rl.vals, ← hlo, ← hln, ← hlk, ← hro, ← hrn, ← hrk, ← hst, ← hbr] at HC1 HBX hbx hW0 ⊢
  clear hr hd hrd hl hlo hln hlk hro hrn hrk hst hbr hbs hbx HB0 HS0 hnone hlen
  go_enter Try.func43, Try.ntmps43
  go_upto_region 1 with fail
  rw [← hH, ← hW0]
  clear hH hW0
  go_wp2_with fail
  refine HC1.out.mono ?_
  rintro e w1 ⟨a1, c1, rfl, hc2⟩
  go_wp2_with fail
  refine hc2.out.mono ?_
  rintro e w2 ⟨rfl, hb2, hc3⟩
  obtain ⟨_, _, _, d3, d4, d5, _, _⟩ := box8 hb2
  clear hb2
  go_wp2_with fail
  refine hc3.out.mono ?_
  rintro e w3 ⟨zo, za, zn, zc, ka, kn, kc, zm, ze, rfl, hc4⟩
  clear d3 d4 d5
  go_wp2_with fail
  refine hc4.out.mono ?_
  rintro e w4 ⟨v, rfl, hc5⟩
  go_wp2_with fail
  refine hc5.out.mono ?_
  rintro e w5 ⟨rfl, hfin⟩
  have HFIN : Hid (RowPost bs w (.returned v) w5) := hfin
  clear hfin
  go_wp2
  go_ret
  exact HFIN.out
end Go.Proofs.Ytjbhfonokgkalaa
