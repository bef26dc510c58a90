/- The walk of the statement PropsTables: a table is one, or not, and tells each character's class. -/
import Derived.Test.YtgncpchgmjacdaaGreatDoorPropsUn
import Derived.Test.YtgncpchgmjacdaaGreatDoorPropsCt
import Derived.Test.YtgncpchgmjacdaaGreatDoorPropsRi
import Derived.Test.YtgncpchgmjacdaaGreatDoorPropsRj
import Derived.Test.YtgncpchgmjacdaaGreatDoorPropsY
namespace Go.Proofs.YtgncpchgmjacdaaGreatDoor
open Go.RowKit
set_option linter.unusedVariables false

theorem rt_ex (rs : List Rg) (ns : List (List Int)) : ∃ R, RtOf rs ns R := by
  cases hc : clsOk ns with
  | false => exact ⟨1, .inl ⟨hc, rfl⟩⟩
  | true =>
    by_cases h1 : ∃ r ∈ rs, reR r = false
    · exact ⟨3, .inr (.inl ⟨hc, h1, rfl⟩)⟩
    · have h1' : ∀ r ∈ rs, reR r = true := fun r hr => by
        cases h : reR r with
        | true => rfl
        | false => exact absurd ⟨r, hr, h⟩ h1
      by_cases h2 : rs.Pairwise ApR
      · by_cases h3 : ∃ r ∈ rs, r.2.2 ∉ ns
        · exact ⟨5, .inr (.inr ⟨hc, h1', .inr (.inl ⟨h2, h3, rfl⟩)⟩)⟩
        · refine ⟨0, .inr (.inr ⟨hc, h1', .inr (.inr ⟨h2, fun r hr => ?_, rfl⟩)⟩)⟩
          exact Classical.byContradiction fun h => h3 ⟨r, hr, h⟩
      · exact ⟨6, .inr (.inr ⟨hc, h1', .inl ⟨h2, rfl⟩⟩)⟩
theorem rt_one (rs : List Rg) (ns : List (List Int)) (R R' : Int) (h : RtOf rs ns R) (h' : RtOf rs ns R') : R = R' := by
  rcases h with ⟨a1, rfl⟩ | ⟨a1, ⟨r, hr, a2⟩, rfl⟩ | ⟨a1, a2, h⟩ <;> rcases h' with ⟨b1, rfl⟩ | ⟨b1, ⟨s, hs, b2⟩, rfl⟩ | ⟨b1, b2, h'⟩
  · rfl
  · rw [a1] at b1; cases b1
  · rw [a1] at b1; cases b1
  · rw [a1] at b1; cases b1
  · rfl
  · rw [b2 r hr] at a2; cases a2
  · rw [a1] at b1; cases b1
  · rw [a2 s hs] at b2; cases b2
  · rcases h with ⟨c1, rfl⟩ | ⟨c1, ⟨r, hr, c2⟩, rfl⟩ | ⟨c1, c2, rfl⟩ <;> rcases h' with ⟨d1, rfl⟩ | ⟨d1, ⟨s, hs, d2⟩, rfl⟩ | ⟨d1, d2, rfl⟩
    · rfl
    · exact absurd d1 c1
    · exact absurd d1 c1
    · exact absurd c1 d1
    · rfl
    · exact absurd (d2 r hr) c2
    · exact absurd c1 d1
    · exact absurd (c2 s hs) d2
    · rfl
/-- Cells that may be written. -/
def Scr (e : TypeId) (N : Nat) (w : World) (g : Nat) : Prop := ∃ cur, w.heap[g]? = some (.cells cur e (0, 0)) ∧ N ≤ cur.size
theorem Scr.cell {e : TypeId} {N : Nat} {w : World} {g : Nat} (h : Scr e N w g) (i : Nat) (hi : i < N) : (∃ v, w.cell? ⟨g, i, none⟩ = some v) ∧ w.frozen? ⟨g, i, none⟩ = false := by
  obtain ⟨cur, h1, h2⟩ := h
  refine ⟨⟨cur[i]'(by omega), ?_⟩, Lib.frozen_of_heap h1 i⟩
  rw [cell_of_row w g i _ _ _ h1]
  simp [show i < cur.size by omega]
theorem Scr.set {e : TypeId} {N : Nat} {w : World} {g : Nat} (h : Scr e N w g) (i : Nat) (v : Value) : Scr e N (w.setCell ⟨g, i, none⟩ v) g := by
  obtain ⟨cur, h1, h2⟩ := h
  refine ⟨_, heap_setCell _ _ i v cur e (0, 0) h1, ?_⟩
  simpa using h2
theorem grown_set (w : World) (g i : Nat) (v : Value) : w.grownBy (w.setCell ⟨g, i, none⟩ v) (some g) :=
  ⟨rfl, rfl, rfl, by simp [World.setCell], fun k _ hk => Below.heap_setCell _ _ _ k (fun e => hk (by rw [e]))⟩
theorem grown_on {w w1 w2 : World} {row : Option Nat} (h : w.grownBy w1 row) (h2 : w1.grownBy w2 row) : w.grownBy w2 row :=
  ⟨h2.os.trans h.os, h2.tape.trans h.tape, h2.output.trans h.output, Nat.le_trans h.size h2.size, fun k hk hne => (h2.block k (Nat.lt_of_lt_of_le hk h.size) hne).trans (h.block k hk hne)⟩
theorem grown_none (w : World) (row : Option Nat) : w.grownBy w row := ⟨rfl, rfl, rfl, Nat.le_refl _, fun _ _ _ => rfl⟩
theorem scr_own {w : World} {B : Nat} {e : TypeId} {s n c : Nat} {a : Option Addr} {xs : List Value} (h : w.ownsRow B e s (.slice a n c) n xs) (hn : 0 < n) : ∃ g, a = some ⟨g, 0, none⟩ ∧ Scr e (n * s) w g := by
  rcases h.2 with ⟨_, h0⟩ | ⟨g, cap, cur, hv, _, hg, hnc, _, hs, ht⟩
  · omega
  · injection hv with h1
    refine ⟨g, h1, cur, hg, ?_⟩
    have h2 := congrArg List.length ht
    rw [List.length_take] at h2
    have h3 := h.1
    have h4 : cur.toList.length = cur.size := by simp
    omega
/-- A table in new memory stays, whatever is written below. -/
theorem tbl_kept {w w' : World} {B t : Nat} {ss : List Sp} {row : Option Nat} (ht : TblAt w t ss) (hf : FrT B w t) (hg : w.grownBy w' row) (hr : ∀ k, row = some k → k < B) : TblAt w' t ss ∧ FrT B w' t := by
  obtain ⟨a, cap, h1, h2⟩ := ht
  obtain ⟨f1, a', n', cap', f2, f3⟩ := hf
  rw [h1] at f2
  injection f2 with f2
  injection f2 with f2 _ _
  have e : (.slice a ss.length cap : Value) = .slice a' n' cap' := by injection f2 with f2; injection f2
  injection e with e1 e2 e3
  subst e1 e2 e3
  have hne : ∀ k, B ≤ k → some k ≠ row := fun k hk he => by have := hr k he.symm; omega
  have hb : w'.heap[t]? = some (.cells #[.slice a ss.length cap] 105) := by rw [hg.block t (Array.getElem?_eq_some_iff.1 h1).1 (hne t f1)]; exact h1
  refine ⟨⟨a, cap, hb, h2.1, fun hp => ?_⟩, f1, a, _, cap, hb, f3⟩
  obtain ⟨b, off, hab, hc⟩ := h2.2 hp
  refine ⟨b, off, hab, fun j v hv => ?_⟩
  exact hg.cell (hc j v hv) (hne b (f3 _ hab))
theorem FrT.later {w w' : World} {B t : Nat} (h : FrT B w t) (hb : Below w.heap.size w w') : FrT B w' t := by
  obtain ⟨f1, a, n, cap, f2, f3⟩ := h
  exact ⟨f1, a, n, cap, by rw [hb.block t (Array.getElem?_eq_some_iff.1 f2).1]; exact f2, f3⟩
theorem cutI_to (a : Option Addr) (len cap n : Nat) (h : n ≤ cap) (W : World) : (Instr.slice 41 (.slice a len cap) none (some (.int .i64 n)) none).run Tryz.prog W = .ok (.slice a n cap) W := by
  have h0 : (0 : Int) ≤ (n : Int) := by omega
  have h1 : (n : Int) ≤ (cap : Int) := by omega
  go_simp
theorem flatI_step (xs : List Int) (k : Nat) (hk : k < xs.length) : flatI (xs.take k) ++ [.int .i64 (xs.getD k 0)] = flatI (xs.take (k + 1)) := by
  rw [List.take_add_one, List.getElem?_eq_getElem hk]
  unfold flatI
  rw [List.map_append]
  simp [hk]

set_option maxHeartbeats 16000000 in
theorem propsTables_walk (rs : List Rg) (ns : List (List Int)) (cs : List Int) (a : Option Addr) (len cap : Nat) (an : Option Addr) (ln capn : Nat) (ac : Option Addr) (lc capc : Nat) (w : World)
    (hrd : RdR w a len rs) (hrs : RgS rs) (hc : len ≤ cap) (hcm : cap ≤ 9223372036854775807) (hnone : a = none → cap = 0)
    (hrn : RdS w an ln ns) (hns : Nms ns) (hcn : ln ≤ capn) (hcnm : capn ≤ 9223372036854775807) (hnone2 : an = none → capn = 0)
    (hrc : ∀ n, n ≤ lc → Rd .i32 w ac n (cs.take n)) (hcc : lc ≤ capc) (hccm : capc ≤ 9223372036854775807) (hg : Gl w) :
    Calls Tryz.prog 5 #[.slice a len cap, .slice an ln capn, .slice ac lc capc] w fun e w' => e = .returned (.bool true) ∧ Below w.heap.size w w' := by
  have HG : Hid (Gl w) := hg
  obtain ⟨n, hn⟩ : ∃ n, n = min len 60 := ⟨_, rfl⟩
  obtain ⟨m, hm⟩ : ∃ m, m = min ln 30 := ⟨_, rfl⟩
  obtain ⟨q, hq⟩ : ∃ q, q = min lc 60 := ⟨_, rfl⟩
  obtain ⟨X, hX⟩ : ∃ X, X = rs.take 60 := ⟨_, rfl⟩
  obtain ⟨Y, hY⟩ : ∃ Y, Y = ns.take 30 := ⟨_, rfl⟩
  obtain ⟨C, hC⟩ : ∃ C, C = cs.take q := ⟨_, rfl⟩
  have HXR : Hid (RgS X) := fun r hr => hrs r (by rw [hX] at hr; exact List.mem_of_mem_take hr)
  have HYN : Hid (Nms Y) := fun s hs => hns s (by rw [hY] at hs; exact List.mem_of_mem_take hs)
  have HCR : Hid (Rd .i32 w ac q C) := by rw [hC]; exact hrc q (by omega)
  have HCUT : Hid (∀ W, Below w.heap.size w W → Calls Tryz.prog 20 #[.slice a len cap, .slice an ln capn] W fun e w' => ∃ va vb, e = .returned (.tuple #[va, vb]) ∧ Below W.heap.size W w' ∧ w'.ownsRow W.heap.size 39 3 va n (flatR X) ∧ w'.ownsRow W.heap.size 9 1 vb m (flatN Y) ∧ Apt va vb) := by
    intro W hW
    rw [hX, hY]
    exact cutT_any rs ns a len cap an ln capn n m W (hrd.later hW) hnone hc hcm (hrn.later hW) hnone2 hcn hcnm hn hm
  obtain ⟨R, hR⟩ := rt_ex X Y
  have HR : Hid (RtOf X Y R) := hR
  have hmin := min_run lc q 60 (by omega)
  have hcutc := cutI_to ac lc capc q (by omega)
  have hn60 : (n : Int) ≤ 60 := by omega
  have hm30 : (m : Int) ≤ 30 := by omega
  have hq60 : (q : Int) ≤ 60 := by omega
  obtain ⟨i0, hi, hz0, hz1, hz2⟩ := info_parts info_I
  have HI : Hid (Tryz.prog.info? 3 = some i0 ∧ i0.zero = some (.int .i64 0) ∧ i0.size = 1 ∧ i0.bytes = 8) := ⟨hi, hz0, hz1, hz2⟩
  clear hi hz0 hz1 hz2 hrd hrs hc hcm hnone hrn hns hcn hcnm hnone2 hrc hcc hccm hg hn hm hq hX hY hC hR
  go_enter Tryz.func5, Tryz.ntmps5
  go_wp2_with fail
  refine (shown_any w HG.out).mono ?_
  rintro e w1 ⟨rfl, hb1⟩
  have HB1 : Hid (Below w.heap.size w w1) := hb1
  clear hb1
  go_wp2_with fail
  refine (HCUT.out w1 HB1.out).mono ?_
  rintro e w2 ⟨va, vb, rfl, hb2, hoa, hob, hapt⟩
  have HB2 : Hid (Below w.heap.size w w2) := HB1.out.trans (hb2.mono HB1.out.size)
  have HOA2 : Hid (w2.ownsRow w1.heap.size 39 3 va n (flatR X)) := hoa
  have HOB2 : Hid (w2.ownsRow w1.heap.size 9 1 vb m (flatN Y)) := hob
  have HAPT : Hid (Apt va vb) := hapt
  clear hb2 hoa hob hapt
  go_wp2_with fail
  refine (HCUT.out w2 HB2.out).mono ?_
  rintro e w3 ⟨vx, vy, rfl, hb3, hox, hoy, _⟩
  have HB3 : Hid (Below w.heap.size w w3) := HB2.out.trans (hb3.mono HB2.out.size)
  have HB23 : Hid (Below w2.heap.size w2 w3) := hb3
  have HOA3 : Hid (w3.ownsRow w1.heap.size 39 3 va n (flatR X)) := HOA2.out.kept (grown_of_below hb3) (Classical.em _)
  have HOB3 : Hid (w3.ownsRow w1.heap.size 9 1 vb m (flatN Y)) := HOB2.out.kept (grown_of_below hb3) (Classical.em _)
  have HOX3 : Hid (w3.ownsRow w2.heap.size 39 3 vx n (flatR X)) := hox
  have HOY3 : Hid (w3.ownsRow w2.heap.size 9 1 vy m (flatN Y)) := hoy
  obtain ⟨aa, ca, rfl, hca, hca2, hra⟩ := own_rdR HOA3.out
  obtain ⟨ab, cb, rfl, hcb, hcb2, hrb⟩ := own_rdS HOB3.out
  obtain ⟨ax, cx, rfl, hq1, hq2, _⟩ := own_rdR HOX3.out
  obtain ⟨ay, cy, rfl, hq3, hq4, _⟩ := own_rdS HOY3.out
  have HNEW : Hid (Calls Tryz.prog 21 #[.slice aa n ca, .slice ab m cb] w3 (NewFr X Y w3)) := new_fresh X Y aa ab n ca m cb w3 hra (own_cap HOA3.out) HXR.out HYN.out hrb hcb (by omega) (by omega)
  have HABL : Hid ((∀ k, (Value.slice aa n ca).ownBlock = some k → w1.heap.size ≤ k ∧ k < w2.heap.size) ∧ ∀ k, (Value.slice ab m cb).ownBlock = some k → w1.heap.size ≤ k ∧ k < w2.heap.size) := ⟨HOA2.out.lt, HOB2.out.lt⟩
  clear hb3 hox hoy hca hca2 hra hcb hcb2 hrb hq1 hq2 hq3 hq4
  go_wp2_with fail
  refine HNEW.out.mono ?_
  rintro e w4 ⟨hnp, hfr⟩
  have hnr := new_right X Y R w3 w4 e hnp HR.out
  obtain ⟨hb4, hnr⟩ := hnr
  have HB4 : Hid (Below w.heap.size w w4) := HB3.out.trans (hb4.mono HB3.out.size)
  have HOX4 : Hid (w4.ownsRow w2.heap.size 39 3 (.slice ax n cx) n (flatR X)) := HOX3.out.kept (grown_of_below hb4) (Classical.em _)
  have HOY4 : Hid (w4.ownsRow w2.heap.size 9 1 (.slice ay m cy) m (flatN Y)) := HOY3.out.kept (grown_of_below hb4) (Classical.em _)
  have HOA4 : Hid (w4.ownsRow w1.heap.size 39 3 (.slice aa n ca) n (flatR X)) := HOA3.out.kept (grown_of_below hb4) (Classical.em _)
  have HOB4 : Hid (w4.ownsRow w1.heap.size 9 1 (.slice ab m cb) m (flatN Y)) := HOB3.out.kept (grown_of_below hb4) (Classical.em _)
  obtain ⟨ax', cx', e1, _, _, hrx⟩ := own_rdR HOX4.out
  injection e1 with e11 e12 e13
  subst e11 e13
  obtain ⟨ay', cy', e1, _, _, hry⟩ := own_rdS HOY4.out
  injection e1 with e11 e12 e13
  subst e11 e13
  have HRT : Hid (Calls Tryz.prog 22 #[.slice ax n cx, .slice ay m cy] w4 fun e w' => e = .returned (.int .i64 R) ∧ ∃ nd, w' = w4.drewN nd) := by
    refine (rightR_any X Y ax ay n cx m cy w4 hrx HXR.out HYN.out hry (by omega) (by omega)).mono ?_
    rintro e w' ⟨R', hR', rfl, nd, rfl⟩
    rw [rt_one X Y R' R hR' HR.out]
    exact ⟨rfl, nd, rfl⟩
  clear hnp hrx hry hb4 e12
  rcases hnr with ⟨hR0, rfl⟩ | ⟨hR0, t, ss, rfl, htb, htl⟩
  · have hR1 : ¬ R = 0 := hR0
    have hR2 : (R == 0) = false := by simpa using hR0
    have hR3 : (R != 0) = true := by simpa using hR0
    clear hfr hR0
    go_wp2_with fail
    refine HRT.out.mono ?_
    rintro e w5 ⟨rfl, nd, rfl⟩
    have HB5 : Hid (Below w.heap.size w (w4.drewN nd)) := HB4.out.trans ((below_drewN w4 nd).mono HB4.out.size)
    generalize w4.drewN nd = w5 at HB5 ⊢
    go_wp2
    go_ret
    exact ⟨rfl, HB5.out⟩
  · subst hR0
    have HFR4 : Hid (FrT w3.heap.size w4 t) := hfr t rfl
    have HTB4 : Hid (TblAt w4 t ss) := htb
    have HTL : Hid (Tells ss X Y) := htl
    clear hfr htb htl
    go_wp2_with fail
    refine HRT.out.mono ?_
    rintro e w5 ⟨rfl, nd, rfl⟩
    have HB5 : Hid (Below w.heap.size w (w4.drewN nd)) := HB4.out.trans ((below_drewN w4 nd).mono HB4.out.size)
    have HFR5 : Hid (FrT w3.heap.size (w4.drewN nd) t) := HFR4.out.later (below_drewN w4 nd)
    have HTB5 : Hid (TblAt (w4.drewN nd) t ss) := HTB4.out.later (below_drewN w4 nd)
    have HOX5 : Hid ((w4.drewN nd).ownsRow w2.heap.size 39 3 (.slice ax n cx) n (flatR X)) := HOX4.out.kept (grown_of_below (below_drewN w4 nd)) (Classical.em _)
    have HOY5 : Hid ((w4.drewN nd).ownsRow w2.heap.size 9 1 (.slice ay m cy) m (flatN Y)) := HOY4.out.kept (grown_of_below (below_drewN w4 nd)) (Classical.em _)
    have HOA5 : Hid ((w4.drewN nd).ownsRow w1.heap.size 39 3 (.slice aa n ca) n (flatR X)) := HOA4.out.kept (grown_of_below (below_drewN w4 nd)) (Classical.em _)
    have HOB5 : Hid ((w4.drewN nd).ownsRow w1.heap.size 9 1 (.slice ab m cb) m (flatN Y)) := HOB4.out.kept (grown_of_below (below_drewN w4 nd)) (Classical.em _)
    generalize w4.drewN nd = w5 at HB5 HFR5 HTB5 HOX5 HOY5 HOA5 HOB5 ⊢
    have HSA : Hid (0 < n → ∃ g, aa = some ⟨g, 0, none⟩ ∧ Scr 39 (n * 3) w5 g) := fun h => scr_own HOA5.out h
    go_wp2
    go_loopw [14] (fun x14 wl => ∃ k : Nat, k ≤ n ∧ x14 = .int .i64 k ∧ (0 < n → ∃ g, aa = some ⟨g, 0, none⟩ ∧ Scr 39 (n * 3) wl g) ∧ w5.grownBy wl (Value.slice aa n ca).ownBlock) (fun x14 _ => n - (intOf x14).toNat)
    case atStart => exact ⟨0, by omega, rfl, HSA.out, grown_none _ _⟩
    case round =>
      obtain ⟨k, hk, hx14, hscr, hgr⟩ := hrel
      subst hx14
      by_cases hlt : k < n
      · obtain ⟨g, hag, hs⟩ := hscr (by omega)
        subst hag
        obtain ⟨⟨vo, c0⟩, f0⟩ := hs.cell (k * 3 + 2) (by omega)
        have HNX : Hid ((0 < n → ∃ g', some (⟨g, 0, none⟩ : Addr) = some ⟨g', 0, none⟩ ∧ Scr 39 (n * 3) (wr.setCell ⟨g, k * 3 + 2, none⟩ (.string ⟨#[63]⟩)) g') ∧ w5.grownBy (wr.setCell ⟨g, k * 3 + 2, none⟩ (.string ⟨#[63]⟩)) (Value.slice (some ⟨g, 0, none⟩) n ca).ownBlock) :=
          ⟨fun _ => ⟨g, rfl, hs.set _ _⟩, grown_on hgr (grown_set wr g _ _)⟩
        clear hs hgr hscr
        go_wp2
        go_roundw
        case rel => exact ⟨k + 1, by omega, by go_num, HNX.out.1, HNX.out.2⟩
        case measure => simp [intOf]; omega
      · have HGR1 : Hid (w5.grownBy wr (Value.slice aa n ca).ownBlock) := hgr
        have HB6 : Hid (Below w.heap.size w wr) := HB5.out.grown hgr HB5.out.size (fun j hj => Nat.le_trans HB1.out.size (HABL.out.1 j hj).1)
        have HT6 : Hid (TblAt wr t ss ∧ FrT w3.heap.size wr t) := tbl_kept HTB5.out HFR5.out hgr (fun j hj => Nat.lt_of_lt_of_le (HABL.out.1 j hj).2 HB23.out.size)
        have HOX6 : Hid (wr.ownsRow w2.heap.size 39 3 (.slice ax n cx) n (flatR X)) := kept_apt HOX5.out hgr (fun j hj hj' => by have := (HOX5.out.lt j hj).1; have := (HABL.out.1 j hj').2; omega)
        have HOY6 : Hid (wr.ownsRow w2.heap.size 9 1 (.slice ay m cy) m (flatN Y)) := kept_apt HOY5.out hgr (fun j hj hj' => by have := (HOY5.out.lt j hj).1; have := (HABL.out.1 j hj').2; omega)
        have HOB6 : Hid (wr.ownsRow w1.heap.size 9 1 (.slice ab m cb) m (flatN Y)) := kept_apt HOB5.out hgr (fun j hj hj' => HAPT.out j hj' hj)
        obtain ⟨w6, hw6⟩ : ∃ w6, w6 = wr := ⟨_, rfl⟩
        rw [← hw6] at HGR1 HB6 HT6 HOX6 HOY6 HOB6 ⊢
        have HSB : Hid (0 < m → ∃ g, ab = some ⟨g, 0, none⟩ ∧ Scr 9 (m * 1) w6 g) := fun h => scr_own HOB6.out h
        clear hgr hscr hw6
        go_wp2
        go_loopw [15] (fun x15 wl => ∃ k : Nat, k ≤ m ∧ x15 = .int .i64 k ∧ (0 < m → ∃ g, ab = some ⟨g, 0, none⟩ ∧ Scr 9 (m * 1) wl g) ∧ w6.grownBy wl (Value.slice ab m cb).ownBlock) (fun x15 _ => m - (intOf x15).toNat)
        case atStart => exact ⟨0, by omega, rfl, HSB.out, grown_none _ _⟩
        case round =>
          obtain ⟨k2, hk2, hx15, hscr, hgr⟩ := hrel
          subst hx15
          by_cases hlt2 : k2 < m
          · obtain ⟨g, hag, hs⟩ := hscr (by omega)
            subst hag
            obtain ⟨⟨vo, c0⟩, f0⟩ := hs.cell k2 (by omega)
            have HNX : Hid ((0 < m → ∃ g', some (⟨g, 0, none⟩ : Addr) = some ⟨g', 0, none⟩ ∧ Scr 9 (m * 1) (wr.setCell ⟨g, k2, none⟩ (.string ⟨#[63]⟩)) g') ∧ w6.grownBy (wr.setCell ⟨g, k2, none⟩ (.string ⟨#[63]⟩)) (Value.slice (some ⟨g, 0, none⟩) m cb).ownBlock) :=
              ⟨fun _ => ⟨g, rfl, hs.set _ _⟩, grown_on hgr (grown_set wr g _ _)⟩
            clear hs hgr hscr
            go_wp2
            go_roundw
            case rel => exact ⟨k2 + 1, by omega, by go_num, HNX.out.1, HNX.out.2⟩
            case measure => simp [intOf]; omega
          · have HB7 : Hid (Below w.heap.size w wr) := HB6.out.grown hgr HB6.out.size (fun j hj => Nat.le_trans HB1.out.size (HABL.out.2 j hj).1)
            have HT7 : Hid (TblAt wr t ss) := (tbl_kept HT6.out.1 HT6.out.2 hgr (fun j hj => Nat.lt_of_lt_of_le (HABL.out.2 j hj).2 HB23.out.size)).1
            have HOX7 : Hid (wr.ownsRow w2.heap.size 39 3 (.slice ax n cx) n (flatR X)) := kept_apt HOX6.out hgr (fun j hj hj' => by have := (HOX6.out.lt j hj).1; have := (HABL.out.2 j hj').2; omega)
            have HOY7 : Hid (wr.ownsRow w2.heap.size 9 1 (.slice ay m cy) m (flatN Y)) := kept_apt HOY6.out hgr (fun j hj hj' => by have := (HOY6.out.lt j hj).1; have := (HABL.out.2 j hj').2; omega)
            obtain ⟨w7, hw7⟩ : ∃ w7, w7 = wr := ⟨_, rfl⟩
            rw [← hw7] at HB7 HT7 HOX7 HOY7 ⊢
            clear hgr hscr hw7
            obtain ⟨ax', cx', e1, _, _, hrx⟩ := own_rdR HOX7.out
            injection e1 with e11 e12 e13
            subst e11 e13
            obtain ⟨ay', cy', e1, _, _, hry⟩ := own_rdS HOY7.out
            injection e1 with e11 e12 e13
            subst e11 e13
            have HRX : Hid (RdR w7 ax n X) := hrx
            have HRY : Hid (RdS w7 ay m Y) := hry
            have HRC : Hid (Rd .i32 w7 ac q C) := HCR.out.later HB7.out
            have HCLN : Hid (C.length = q) := HCR.out.1
            have HREF : Hid (∀ (W : World) (c : Int), Below w7.heap.size w7 W → Calls Tryz.prog 23 #[.slice ax n cx, .slice ay m cy, .int .i32 c] W fun e w' => e = .returned (.int .i64 (clsP ss c)) ∧ w' = W) := by
              intro W c hW
              rw [← clsF_tells ss X Y c HTL.out]
              exact classR_any X Y ax ay n cx m cy c W (HRX.out.later hW) HXR.out HYN.out (HRY.out.later hW) (by omega) (by omega)
            have hsl : ss.length ≤ 4611686018427387903 := by have h1 := HTL.out.2.1; have h2 := HRX.out.1; omega
            have HSL : Hid (ss.length ≤ 4611686018427387903) := hsl
            have HCL : Hid (∀ (W : World) (c : Int), Below w7.heap.size w7 W → Calls Tryz.prog 24 #[.pointer (some ⟨t, 0, none⟩), .int .i32 c] W fun e w' => e = .returned (.int .i64 (clsP ss c)) ∧ Below W.heap.size W w') :=
              fun W c hW => class_any t ss c W HTL.out.1 (HT7.out.later hW) HSL.out
            clear hrx hry e12 hsl
            go_wp2
            go_loopw [16, 17] (fun x16 x17 wl => ∃ i : Nat, i ≤ q ∧ x17 = .int .i64 i ∧ wl.ownsRow w7.heap.size 3 1 x16 i (flatI ((C.map (clsP ss)).take i)) ∧ Below w7.heap.size w7 wl) (fun _ x17 _ => q - (intOf x17).toNat)
            case atStart => exact ⟨0, by omega, rfl, World.ownsRow_nil _ _ _ _, Below.refl _ _⟩
            case round =>
              obtain ⟨i, hi, hx17, hown, hbel⟩ := hrel
              subst hx17
              have HO : Hid (wr.ownsRow w7.heap.size 3 1 u16 i (flatI ((C.map (clsP ss)).take i))) := hown
              have HB : Hid (Below w7.heap.size w7 wr) := hbel
              clear hown hbel
              by_cases hiq : i < q
              · obtain ⟨b, off, hab, hcl⟩ := (HRC.out.later HB.out).2 (by omega)
                subst hab
                have c0 := hcl i hiq
                obtain ⟨x, hx⟩ : ∃ x, x = C.getD i 0 := ⟨_, rfl⟩
                rw [← hx] at c0
                obtain ⟨iv, hiv⟩ : ∃ iv, iv = clsP ss x := ⟨_, rfl⟩
                have HRF : Hid (Calls Tryz.prog 23 #[.slice ax n cx, .slice ay m cy, .int .i32 x] wr fun e w' => e = .returned (.int .i64 iv) ∧ w' = wr) := by rw [hiv]; exact HREF.out wr x HB.out
                have HC : Hid (Calls Tryz.prog 24 #[.pointer (some ⟨t, 0, none⟩), .int .i32 x] wr fun e w' => e = .returned (.int .i64 iv) ∧ Below wr.heap.size wr w') := by rw [hiv]; exact HCL.out wr x HB.out
                have HFL : Hid (flatI ((C.map (clsP ss)).take i) ++ [.int .i64 iv] = flatI ((C.map (clsP ss)).take (i + 1))) := by
                  have hic : i < C.length := by rw [HCLN.out]; exact hiq
                  have := flatI_step (C.map (clsP ss)) i (by simpa using hic)
                  rw [show (C.map (clsP ss)).getD i 0 = iv by rw [hiv, hx]; simp [hic]] at this
                  exact this
                clear hcl hx hiv
                go_wp2_with (first | (go_at_call 23; refine HRF.out.mono ?_; rintro e w' ⟨rfl, hw'⟩; obtain rfl : wr = w' := hw'.symm))
                refine HC.out.mono ?_
                rintro e wz ⟨rfl, hbz⟩
                have hO1 := HO.out.kept (grown_of_below hbz) (Classical.em _)
                have hbw : Below w7.heap.size w7 wz := HB.out.trans (hbz.mono HB.out.size)
                have HBW : Hid (Below w7.heap.size w7 wz) := hbw
                have HOA : Hid ((wz.alloc (.cells #[.int .i64 iv] 3)).ownsRow w7.heap.size 3 1 u16 i (flatI ((C.map (clsP ss)).take i))) := own_alloc hO1 _
                have HNEWC : Hid (∀ j u, [Value.int .i64 iv][j]? = some u → (wz.alloc (.cells #[.int .i64 iv] 3)).cell? ((⟨wz.heap.size, 0, none⟩ : Addr).add j) = some u) := by
                  intro j u hu
                  rw [add_lit, Nat.zero_add, cell_of_row _ wz.heap.size j _ _ _ (heap_alloc_new wz _)]
                  simpa using hu
                have HLT : Hid (∀ j, u16.ownBlock = some j → w7.heap.size ≤ j ∧ j < wz.heap.size) := hO1.lt
                have HFIN : Hid (∀ v' w', w'.ownsRow w7.heap.size 3 1 v' (i + 1) (flatI ((C.map (clsP ss)).take i) ++ [.int .i64 iv]) → (wz.alloc (.cells #[.int .i64 iv] 3)).grownBy w' u16.ownBlock → w'.ownsRow w7.heap.size 3 1 v' (i + 1) (flatI ((C.map (clsP ss)).take (i + 1))) ∧ Below w7.heap.size w7 w') := by
                  intro v' w' h1 h2
                  rw [HFL.out] at h1
                  exact ⟨h1, (HBW.out.alloc HBW.out.size _).grown h2 (by simp; have := HBW.out.size; omega) (fun j hj => (HLT.out j hj).1)⟩
                clear hO1 hbw hbz c0
                go_wp2_with (at_builtin; refine wpList_append_own _ rfl _ _ 48 rfl w7.heap.size 3 i0 _ 1 8 Tryz.underlying48 HI.out.1 HI.out.2.1 HI.out.2.2.1 HI.out.2.2.2 rfl (by decide) _ i (flatI ((C.map (clsP ss)).take i)) rfl HOA.out ⟨wz.heap.size, 0, none⟩ 1 1 [.int .i64 iv] rfl rfl HNEWC.out (by intro u hu; rw [List.mem_singleton.1 hu]; rfl) (by unfold maxLen; omega) (by omega) (by simp; have := HBW.out.size; omega) (fun v' w' h1 h2 _ => ?_); have HF := HFIN.out v' w' h1 h2; have HFF : Hid _ := HF; clear HF h1 h2)
                go_roundw
                case rel => exact ⟨i + 1, by omega, by go_num, HFF.out.1, HFF.out.2⟩
                case measure => simp [intOf]; omega
              · obtain rfl : i = q := by omega
                have HT : Hid ((C.map (clsP ss)).take i = C.map (clsP ss)) := List.take_of_length_le (by simp; rw [HCLN.out]; exact Nat.le_refl _)
                rw [HT.out] at HO
                obtain ⟨aw, cw, rfl, hq1, hq2, hrw⟩ := own_rdI HO.out
                have HRW : Hid (Rd .i64 wr aw i (C.map (clsP ss))) := hrw
                have HCS : Hid (Calls Tryz.prog 26 #[.pointer (some ⟨t, 0, none⟩), .slice ac i capc] wr fun e w' => Below wr.heap.size wr w' ∧ ∃ v, e = .returned v ∧ w'.ownsRow wr.heap.size 3 1 v i (flatI (C.map (clsP ss)))) :=
                  classes_any t ss C ac i capc wr HTL.out.1 (HT7.out.later HB.out) HSL.out (HRC.out.later HB.out) (by omega)
                clear hq1 hq2 hrw
                go_wp2_with fail
                refine HCS.out.mono ?_
                rintro e wz ⟨hbz, v, rfl, hoz⟩
                obtain ⟨az, cz, rfl, hq1, hq2, hrz⟩ := own_rdI hoz
                have HBZ : Hid (Below w.heap.size w wz) := HB7.out.trans ((HB.out.trans (hbz.mono HB.out.size)).mono HB7.out.size)
                have HSM : Hid (Calls Tryz.prog 25 #[.slice az i cz, .slice aw i cw] wz fun e w' => e = .returned (.bool true) ∧ ∃ n, w' = wz.drewN n) :=
                  sameI_refl (C.map (clsP ss)) az aw i cz cw wz hrz (HRW.out.later hbz) (by omega)
                clear hbz hoz hq1 hq2 hrz
                go_wp2_with fail
                refine HSM.out.mono ?_
                rintro e wy ⟨rfl, nd2, rfl⟩
                have HBY : Hid (Below w.heap.size w (wz.drewN nd2)) := HBZ.out.trans ((below_drewN wz nd2).mono HBZ.out.size)
                generalize wz.drewN nd2 = wy at HBY ⊢
                go_wp2
                go_ret
                exact ⟨by first | rfl | simp, HBY.out⟩
end Go.Proofs.YtgncpchgmjacdaaGreatDoor
