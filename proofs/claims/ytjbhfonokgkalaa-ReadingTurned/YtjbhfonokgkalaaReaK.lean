/- The walks of leftFits and rightFits. -/
import Derived.Test.YtjbhfonokgkalaaReaJ
namespace Go.Proofs.Ytjbhfonokgkalaa
open Go.RowKit
set_option linter.unusedVariables false
set_option linter.unusedSimpArgs false

/-- Where a rule's slices lie. -/
structure RlP where
  la : Option Addr
  lc : Nat
  lp : Option Addr
  lpc : Nat
  ra : Option Addr
  rc : Nat
  rp : Option Addr
  rpc : Nat
/-- The values of a rule. -/
abbrev Rl.vals (r : Rl) (q : RlP) : Array Value := #[.int .i64 r.left.op, .slice q.la r.left.cl.length q.lc, .slice q.lp (toL r.left.kids).length q.lpc, .int .i64 r.right.op, .slice q.ra r.right.cl.length q.rc, .slice q.rp (toL r.right.kids).length q.rpc, .bool r.brk, .bool r.start]
/-- A rule in memory, its sides no deeper than that. -/
def RlAt (w : World) (d : Nat) (r : Rl) (q : RlP) : Prop :=
  InV w.heap.size w d r.left [.int .i64 r.left.op, .slice q.la r.left.cl.length q.lc, .slice q.lp (toL r.left.kids).length q.lpc] ∧ InV w.heap.size w d r.right [.int .i64 r.right.op, .slice q.ra r.right.cl.length q.rc, .slice q.rp (toL r.right.kids).length q.rpc]
theorem RlAt.later {w w' : World} {d : Nat} {r : Rl} {q : RlP} (h : RlAt w d r q) (hb : Below w.heap.size w w') : RlAt w' d r q := ⟨(h.1.later hb d).base hb.size d, (h.2.later hb d).base hb.size d⟩
theorem box8 {w : World} {B : Nat} {a b c d e f g h : Value} {t : TypeId} (hh : w.heap[B]? = some (.cells #[a, b, c, d, e, f, g, h] t)) :
    w.cell? ⟨B, 0, none⟩ = some a ∧ w.cell? ⟨B, 1, none⟩ = some b ∧ w.cell? ⟨B, 2, none⟩ = some c ∧ w.cell? ⟨B, 3, none⟩ = some d ∧ w.cell? ⟨B, 4, none⟩ = some e ∧ w.cell? ⟨B, 5, none⟩ = some f ∧ w.cell? ⟨B, 6, none⟩ = some g ∧ w.cell? ⟨B, 7, none⟩ = some h :=
  ⟨cell_of_row w B 0 _ _ _ hh, cell_of_row w B 1 _ _ _ hh, cell_of_row w B 2 _ _ _ hh, cell_of_row w B 3 _ _ _ hh, cell_of_row w B 4 _ _ _ hh, cell_of_row w B 5 _ _ _ hh, cell_of_row w B 6 _ _ _ hh, cell_of_row w B 7 _ _ _ hh⟩
theorem Rd.lt {k : IntKind} {w : World} {a : Option Addr} {len : Nat} {xs : List Int} (h : Rd k w a len xs) : 0 < len → ∀ y, a = some y → y.block < w.heap.size := by
  intro hp y hy
  obtain ⟨b, off, e, hc⟩ := h.2 hp
  rw [e] at hy
  cases hy
  exact World.block_lt_of_cell? w _ (hc 0 hp)
/-- What leftFits, rightFits and ruleFits leave: a row of their own. -/
def RowPost (bs : List Bool) (w : World) (e : Ending) (w' : World) : Prop := ∃ v, e = .returned v ∧ w'.ownsRow w.heap.size 4 1 v bs.length (bs.map Value.bool) ∧ Below w.heap.size w w'
theorem endsL_len (n : Nd) (any : Bool) (xs : List Int) : (endsL n any xs).length = xs.length + 1 := by simp [endsL]
/-- ends, of what markedOf leaves. -/
theorem ends_of {B d : Nat} {t : Bool} {n : Nd} {any : Bool} {xs : List Int} {a : Option Addr} {len cap : Nat} {w0 w w2 : World} {x : Mk} {fp : Nat → Prop} (hB : B ≤ w.heap.size) (hb2 : Below w.heap.size w w2) (hfp : ∀ y, fp y → w.heap.size ≤ y ∧ y < w2.heap.size) (hnd : NdV B w2 d n [] x.vals fp) (hrd : Rd .i64 w a len xs) (htb : 0 < len → ∀ y, a = some y → y.block < B) (hl : len ≤ 1000000) :
    Calls Try.prog 58 #[x.agg, .slice a len cap, .bool any] w2 fun e w' => ∃ v, e = .returned v ∧ w'.ownsRow w.heap.size 4 1 v (endsL n any xs).length ((endsL n any xs).map Value.bool) ∧ Below B w2 w' := by
  refine (ends_any B d n any xs x fp a len cap w2 hnd (Nat.le_trans hB hb2.size) (fun y hy => ⟨Nat.le_trans hB (hfp y hy).1, (hfp y hy).2⟩) (hrd.later hb2) htb hl).mono ?_
  rintro e w' ⟨v, rfl, h1, h2⟩
  refine ⟨v, rfl, ?_, h2⟩
  rw [endsL_len, hrd.1]
  exact own_base h1 (by have := hb2.size; omega)

set_option maxHeartbeats 4000000 in
theorem leftFits_any (d : Nat) (r : Rl) (q : RlP) (xs : List Int) (a : Option Addr) (len cap : Nat) (w : World) (hr : RlAt w d r q) (hd : d ≤ 131073) (hrd : Rd .i64 w a len xs) (hl : len ≤ 1000000) :
    Calls Try.prog 42 #[.agg (r.vals q), .slice a len cap] w (RowPost (endsL (r.left.nrm false) (!r.start) xs) w) := by
  obtain ⟨W0, hW0⟩ : ∃ W0, W0 = w.alloc (.cells (r.vals q) 35) := ⟨_, rfl⟩
  obtain ⟨H, hH⟩ : ∃ H, H = w.heap.size := ⟨_, rfl⟩
  have HB0 : Hid (Below H w W0) := by rw [hW0, hH]; exact (Below.refl _ w).alloc (Nat.le_refl _) _
  have HS0 : Hid (W0.heap.size = H + 1 ∧ H = w.heap.size) := ⟨by rw [hW0, hH]; simp, hH⟩
  have hbx : W0.heap[H]? = some (.cells (r.vals q) 35) := by rw [hW0, hH]; exact heap_alloc_new w _
  have HBX : Hid (W0.heap[H]? = some (.cells (r.vals q) 35)) := hbx
  have HM : Hid (Calls Try.prog 59 #[.agg #[.int .i64 r.left.op, .slice q.la r.left.cl.length q.lc, .slice q.lp (toL r.left.kids).length q.lpc], .bool false] W0.drew fun e w2 => ∃ zo za zn zc ka kn kc zm ze, e = .returned (.agg #[.int .i64 zo, .slice za zn zc, .slice ka kn kc, .bool zm, .bool ze]) ∧ Below H w w2 ∧ w2.heap[H]? = some (.cells (r.vals q) 35) ∧
      Calls Try.prog 58 #[.agg #[.int .i64 zo, .slice za zn zc, .slice ka kn kc, .bool zm, .bool ze], .slice a len cap, .bool (!r.start)] w2 fun e w' => RowPost (endsL (r.left.nrm false) (!r.start) xs) w e w' ∧ w'.heap[H]? = some (.cells (r.vals q) 35)) := by
    have h0 := HS0.out
    have hs : W0.drew.heap.size = H + 1 := h0.1
    refine (markedOf_any (H + 1) d false r.left q.la q.lp q.lc q.lpc W0.drew (by rw [hH]; exact (hr.1.later (by rw [← hH]; exact HB0.out.drew) d).base (by omega) d) (by omega) hd).mono ?_
    rintro e w2 ⟨hb2, ⟨zo, za, zn, zc, ka, kn, kc, zm, ze⟩, fp, rfl, hfp, hnd⟩
    have hbw : Below H w w2 := HB0.out.drew.trans (hb2.mono (by omega))
    refine ⟨zo, za, zn, zc, ka, kn, kc, zm, ze, rfl, hbw, (hb2.block H (by omega)).trans HBX.out, ?_⟩
    have hrd0 : Rd .i64 W0.drew a len xs := hrd.later (by rw [← hH]; exact HB0.out.drew)
    refine (ends_of (w0 := w) (t := false) (any := !r.start) (cap := cap) (B := H + 1) (w := W0.drew) (by omega) hb2 hfp hnd hrd0 (fun hp y hy => by have := hrd.lt hp y hy; omega) hl).mono ?_
    rintro e w' ⟨v, rfl, h1, h2⟩
    exact ⟨⟨v, rfl, own_base h1 (by omega), by rw [← hH]; exact hbw.trans (h2.mono (by omega))⟩, (h2.block H (by omega)).trans ((hb2.block H (by omega)).trans HBX.out)⟩
  obtain ⟨lo, hlo⟩ : ∃ lo, lo = r.left.op := ⟨_, rfl⟩
  obtain ⟨ln, hln⟩ : ∃ ln, ln = r.left.cl.length := ⟨_, rfl⟩
  obtain ⟨lk, hlk⟩ : ∃ lk, lk = (toL r.left.kids).length := ⟨_, rfl⟩
  obtain ⟨ro, hro⟩ : ∃ ro, ro = r.right.op := ⟨_, rfl⟩
  obtain ⟨rn, hrn⟩ : ∃ rn, rn = r.right.cl.length := ⟨_, rfl⟩
  obtain ⟨rk, hrk⟩ : ∃ rk, rk = (toL r.right.kids).length := ⟨_, rfl⟩
  obtain ⟨st, hst⟩ : ∃ st, st = r.start := ⟨_, rfl⟩
  obtain ⟨br, hbr⟩ : ∃ br, br = r.brk := ⟨_, rfl⟩
  obtain ⟨bs, hbs⟩ : ∃ bs, bs = endsL (r.left.nrm false) (!r.start) xs := ⟨_, rfl⟩
  obtain ⟨la, lc, lp, lpc, ra, rc, rp, rpc⟩ := q
  simp only [Rl.vals, ← hlo, ← hln, ← hlk, ← hro, ← hrn, ← hrk, ← hst, ← hbr] at HM HBX hbx hW0 ⊢
  rw [← hst] at hbs
  rw [← hbs] at HM ⊢
  have hup : ∀ W : World, W.heap[H]? = some (.cells #[.int .i64 lo, .slice la ln lc, .slice lp lk lpc, .int .i64 ro, .slice ra rn rc, .slice rp rk rpc, .bool br, .bool st] 35) → W.cell? ⟨H, 0, none⟩ = some (.int .i64 lo) ∧ W.cell? ⟨H, 1, none⟩ = some (.slice la ln lc) ∧ W.cell? ⟨H, 2, none⟩ = some (.slice lp lk lpc) ∧ W.cell? ⟨H, 7, none⟩ = some (.bool st) := fun W hW => ⟨(box8 hW).1, (box8 hW).2.1, (box8 hW).2.2.1, (box8 hW).2.2.2.2.2.2.2⟩
  have HUP : Hid (∀ W : World, W.heap[H]? = some (.cells #[.int .i64 lo, .slice la ln lc, .slice lp lk lpc, .int .i64 ro, .slice ra rn rc, .slice rp rk rpc, .bool br, .bool st] 35) → W.cell? ⟨H, 0, none⟩ = some (.int .i64 lo) ∧ W.cell? ⟨H, 1, none⟩ = some (.slice la ln lc) ∧ W.cell? ⟨H, 2, none⟩ = some (.slice lp lk lpc) ∧ W.cell? ⟨H, 7, none⟩ = some (.bool st)) := hup
  clear hr hd hrd hl hlo hln hlk hro hrn hrk hst hbr hbs hbx hup HB0 HS0
  go_enter Try.func42, Try.ntmps42
  go_upto_region 1 with fail
  rw [← hH, ← hW0]
  clear hH hW0
  go_region_held3 (fun w' => w'.cell? ⟨H, 0, none⟩ = some (.int .i64 lo) ∧ w'.cell? ⟨H, 1, none⟩ = some (.slice la ln lc) ∧ w'.cell? ⟨H, 2, none⟩ = some (.slice lp lk lpc) ∧ w'.cell? ⟨H, 7, none⟩ = some (.bool st))
    (first | exact HUP.out W0 HBX.out | exact hS2 | exact hS3)
    (first
      | (go_at_call 59; refine HM.out.mono ?_; rintro e w2 ⟨zo, za, zn, zc, ka, kn, kc, zm, ze, rfl, hbw, hbx2, hcall⟩; have hS2 := HUP.out w2 hbx2; have HCL : Hid (Calls Try.prog 58 #[.agg #[.int .i64 zo, .slice za zn zc, .slice ka kn kc, .bool zm, .bool ze], .slice a len cap, .bool (!st)] w2 fun e w' => RowPost bs w e w' ∧ w'.heap[H]? = some (.cells #[.int .i64 lo, .slice la ln lc, .slice lp lk lpc, .int .i64 ro, .slice ra rn rc, .slice rp rk rpc, .bool br, .bool st] 35)) := hcall; clear hbw hbx2 hcall)
      | (go_at_call 58; refine HCL.out.mono ?_; rintro e w3 ⟨⟨v, rfl, hown, hbel⟩, hbx3⟩; have hS3 := HUP.out w3 hbx3; have HFIN : Hid (RowPost bs w (.returned v) w3) := ⟨v, rfl, hown, hbel⟩; clear hown hbel hbx3))
  go_wp2
  go_ret
  exact HFIN.out
end Go.Proofs.Ytjbhfonokgkalaa
