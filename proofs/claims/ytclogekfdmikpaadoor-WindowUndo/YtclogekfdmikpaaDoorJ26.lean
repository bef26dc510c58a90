/- In one text: NfaU, NfaV. -/
import Derived.Test.YtclogekfdmikpaaDoorJ25
import Derived.Deep.RegionHeld3
import Derived.Deep.CutBlock
/- The walks of turned and Reverse. -/
namespace Go.Proofs.YtclogekfdmikpaaDoor
open Go.RowKit
set_option linter.unusedVariables false
set_option linter.unusedSimpArgs false

def TuPost (d : Nat) (n : Nd) (w : World) (e : Ending) (w' : World) : Prop :=
 ∃ x : Nk, e = .returned (.agg #[.int .i64 x.op, .slice x.ca x.cn x.cc, .slice x.pa x.pn x.pc]) ∧ NwV w.heap.size w' d n.rev x.vals ∧ Below w.heap.size w w'
def TuC (d : Nat) : Prop := ∀ (D : Nat) (n : Nd) (op : Int) (ca pa : Option Addr) (cn cc pn pc : Nat) (w : World), InV w.heap.size w D n [.int .i64 op, .slice ca cn cc, .slice pa pn pc] → okN d n = true → n.cnt ≤ 400 →
 Calls Tryd.prog 41 #[.agg #[.int .i64 op, .slice ca cn cc, .slice pa pn pc]] w (TuPost d n w)
theorem tu_begin {A0 T d : Nat} {n : Nd} {a1 a2 : Option Addr} {cn c1 K c2 : Nat} {xs : List Nk} {w : World} (hl : xs.length = (toL n.kids).length) (h1 : w.ownsRow A0 3 1 (.slice a1 cn c1) cn (n.cl.map (Value.int .i64))) (h2 : w.ownsRow A0 56 3 (.slice a2 K c2) K (flatN xs)) (hT : w.heap[T]? = some (.cells #[.int .i64 0, .slice none 0 0, .slice none 0 0] 56)) (hne : ∀ g, (Value.slice a2 K c2).ownBlock = some g → g ≠ T) :
 TuAt A0 w.heap.size T d n a1 a2 cn c1 K c2 xs 0 xs (F3 w T 0 ⟨n.op, a1, cn, c1, a2, K, c2⟩) := by
 have hg := f3_grown w T 0 ⟨n.op, a1, cn, c1, a2, K, c2⟩
 have h3 : (F3 w T 0 ⟨n.op, a1, cn, c1, a2, K, c2⟩).heap[T]? = some (.cells #[.int .i64 n.op, .slice a1 cn c1, .slice a2 K c2] 56) := f3_heap 0 ⟨n.op, a1, cn, c1, a2, K, c2⟩ hT
 refine ⟨hl, h2.kept hg ?_, h1.kept hg (.inr (own_ne h1 hT (by decide))), h3, fun i hi h => by omega, fun _ _ => rfl, hg.size, (Array.getElem?_eq_some_iff.1 hT).1, fun g hg' => ⟨hne g hg', (h2.lt g hg').2⟩⟩
 cases hv : (Value.slice a2 K c2).ownBlock with
 | none => exact .inl rfl
 | some y => exact .inr (fun e => hne y hv (Option.some.inj e))
theorem tu_begin2 {A0 d : Nat} {n : Nd} {a1 a2 : Option Addr} {cn c1 K c2 : Nat} {xs : List Nk} {w : World} (hl : xs.length = (toL n.kids).length) (h1 : w.ownsRow A0 3 1 (.slice a1 cn c1) cn (n.cl.map (Value.int .i64))) (h2 : w.ownsRow A0 56 3 (.slice a2 K c2) K (flatN xs)) :
 TuAt A0 (w.heap.size + 1) w.heap.size d n a1 a2 cn c1 K c2 xs 0 xs (w.alloc (.cells #[.int .i64 n.op, .slice a1 cn c1, .slice a2 K c2] 56)) := by
 have hb := (Below.refl _ w).alloc (Nat.le_refl _) (.cells #[.int .i64 n.op, .slice a1 cn c1, .slice a2 K c2] 56)
 exact ⟨hl, own_later5 h2 hb, own_later5 h1 hb, heap_alloc_new w _, fun i hi h => by omega, fun _ _ => rfl, by simp, by omega, fun g hg => ⟨by have := (h2.lt g hg).2; omega, by have := (h2.lt g hg).2; omega⟩⟩
theorem tz_a {W V2 V3 : World} {o : Obj} (h2 : Below (W.drew.alloc o).heap.size (W.drew.alloc o) V2) (h3 : Below V2.heap.size V2 V3) : V3.heap[W.heap.size]? = some o ∧ W.heap.size < V2.heap.size := by
 have h := heap_alloc_new W.drew o
 have hs : (W.drew.alloc o).heap.size = W.heap.size + 1 := by simp
 have e1 : W.heap.size < (W.drew.alloc o).heap.size := by omega
 have := h2.size
 exact ⟨(h3.block _ (by omega)).trans ((h2.block _ e1).trans h), by omega⟩
theorem tz_b {V2 V3 : World} {o : Obj} (h3 : Below (V2.alloc o).heap.size (V2.alloc o) V3) : V3.heap[V2.heap.size]? = some o ∧ V2.heap.size < (V2.alloc o).heap.size := by
 have h := heap_alloc_new V2 o
 exact ⟨(h3.block _ (by simp)).trans h, by simp⟩
theorem tz_cells {V : World} {T : Nat} (h : V.heap[T]? = some (.cells #[.int .i64 0, .slice none 0 0, .slice none 0 0] 56)) : V.cell? ⟨T, 0, none⟩ = some (.int .i64 0) ∧ V.cell? ⟨T, 1, none⟩ = some (.slice none 0 0) ∧ V.cell? ⟨T, 2, none⟩ = some (.slice none 0 0) ∧ V.frozen? ⟨T, 0, none⟩ = false ∧ V.frozen? ⟨T, 1, none⟩ = false ∧ V.frozen? ⟨T, 2, none⟩ = false :=
 ⟨cell_of_row V T 0 _ _ _ h, cell_of_row V T 1 _ _ _ h, cell_of_row V T 2 _ _ _ h, Lib.frozen_of_heap h 0, Lib.frozen_of_heap h 1, Lib.frozen_of_heap h 2⟩
theorem f3_below {B T : Nat} {W V : World} (h : Below B W V) (hB : B ≤ W.heap.size) (hT : B ≤ T) (o : Nat) (x : Nk) : Below B W (F3 V T o x) := h.grown (f3_grown V T o x) (Nat.le_trans hB h.size) (fun k hk => by cases hk; exact hT)
theorem tz_all {W0 V w3 : World} {T : Nat} (op : Int) (a1 a2 : Option Addr) (cn c1 pn c2 : Nat) (h : w3.heap[T]? = some (.cells #[.int .i64 0, .slice none 0 0, .slice none 0 0] 56) ∧ T < V.heap.size) (hB : Below W0.heap.size W0 w3) (hT : W0.heap.size ≤ T) (hl : ∀ g, (Value.slice a2 pn c2).ownBlock = some g → V.heap.size ≤ g ∧ g < w3.heap.size) :
 w3.heap[T]? = some (.cells #[.int .i64 0, .slice none 0 0, .slice none 0 0] 56) ∧ (∀ g, (Value.slice a2 pn c2).ownBlock = some g → g ≠ T) ∧ Below W0.heap.size W0 (F3 w3 T 0 ⟨op, a1, cn, c1, a2, pn, c2⟩) :=
 ⟨h.1, fun g hg e => by have := (hl g hg).1; have := h.2; omega, f3_below hB (Nat.le_refl _) hT 0 _⟩
set_option maxHeartbeats 8000000 in
theorem tu_up (d : Nat) (HP : TuC d) : TuC (d + 1) := by
 intro D n op ca pa cn cc pn pc w hin hok hcnt
 have HPC : Hid (TuC d) := HP
 obtain ⟨ca', cc', pa', pc', hv⟩ := hin.three
 simp only [List.cons.injEq, Value.int.injEq, Value.slice.injEq, and_true, true_and] at hv
 obtain ⟨hop, ⟨rfl, hcn, rfl⟩, rfl, hK, rfl⟩ := hv
 have hcl := (okN_op _ n hok).2.2.2.2
 have HALL : Hid (∀ x ∈ toL n.kids, okN d x = true ∧ x.cnt ≤ 400) := by
  simp only [okN, Bool.and_eq_true, List.all_eq_true] at hok
  intro x hx
  refine ⟨hok.2 x hx, ?_⟩
  obtain ⟨i, hi, rfl⟩ := List.getElem_of_mem hx
  have h1 := cntL_take (toL n.kids) i hi
  have h2 := cnt_eq n
  omega
 obtain ⟨xs, hxl, hkid, hpn, hnews⟩ := hin.parts
 have hrd := hin.classes.1
 have hnil := hin.nilc
 have hK4 : pn ≤ 400 := by
  have h1 := cnt_eq n
  have h2 := cntL_len (toL n.kids)
  omega
 have hcn4 : cn ≤ 24 := by omega
 obtain ⟨H, hH⟩ : ∃ H, H = w.heap.size := ⟨_, rfl⟩
 obtain ⟨W0, hW0⟩ : ∃ W0, W0 = (w.alloc (.cells #[.int .i64 op, .slice ca cn cc, .slice pa pn pc] 56)).alloc (.cells #[.int .i64 0, .slice none 0 0, .slice none 0 0] 56) := ⟨_, rfl⟩
 have HB0 : Hid (Below w.heap.size w W0) := by rw [hW0]; exact ((Below.refl _ w).alloc (Nat.le_refl _) _).alloc (by simp) _
 have hax : W0.heap[H]? = some (.cells #[.int .i64 op, .slice ca cn cc, .slice pa pn pc] 56) := by
  rw [hW0, hH]
  exact (((Below.refl _ (w.alloc _)).alloc (Nat.le_refl _) _).block w.heap.size (by simp)).trans (heap_alloc_new w _)
 have HAX : Hid (W0.heap[H]? = some (.cells #[.int .i64 op, .slice ca cn cc, .slice pa pn pc] 56)) := hax
 have HRX : Hid (W0.heap[H + 1]? = some (.cells #[.int .i64 0, .slice none 0 0, .slice none 0 0] 56)) := by rw [hW0, hH]; exact new_at2 w _ _
 have HSZ : Hid (W0.heap.size = H + 2 ∧ H = w.heap.size) := ⟨by rw [hW0, hH]; simp, hH⟩
 have HUP : Hid (∀ V : World, Below W0.heap.size W0 V → V.cell? ⟨H, 0, none⟩ = some (.int .i64 op) ∧ V.cell? ⟨H, 1, none⟩ = some (.slice ca cn cc) ∧ V.cell? ⟨H, 2, none⟩ = some (.slice pa pn pc)) := fun V hV =>
  ⟨upC hV (cell_of_row W0 H 0 _ _ _ hax), upC hV (cell_of_row W0 H 1 _ _ _ hax), upC hV (cell_of_row W0 H 2 _ _ _ hax)⟩
 have HCI : Hid (∀ V : World, Below W0.heap.size W0 V → Calls Tryd.prog 34 #[.slice ca cn cc] V fun e w' => ∃ a1 c1, e = .returned (.slice a1 cn c1) ∧ w'.ownsRow (H + 2) 3 1 (.slice a1 cn c1) cn (n.cl.map (Value.int .i64)) ∧ Below V.heap.size V w') := by
  intro V hV
  refine (cloneI_any n.cl ca cn cc V ?_ hnil (by omega)).mono ?_
  ·rw [hcn]; exact hrd.later (HB0.out.trans (hV.mono HB0.out.size))
  ·rintro e w' ⟨v, rfl, ho, hb⟩
   obtain ⟨a1, c1, rfl⟩ := own_sl1 ho
   exact ⟨a1, c1, rfl, own_base ho (by have := hV.size; rw [HSZ.out.1] at this; exact this), hb⟩
 have HCN : Hid (∀ V : World, Below W0.heap.size W0 V → Calls Tryd.prog 59 #[.slice pa pn pc] V fun e w' => ∃ a2 c2, e = .returned (.slice a2 pn c2) ∧ w'.ownsRow (H + 2) 56 3 (.slice a2 pn c2) pn (flatN xs) ∧ (∀ g, (Value.slice a2 pn c2).ownBlock = some g → V.heap.size ≤ g ∧ g < w'.heap.size) ∧ Below V.heap.size V w') := by
  intro V hV
  have hb := HB0.out.trans (hV.mono HB0.out.size)
  refine (cloneN_any xs pa pn pc V (by rw [hxl, hK]) (fun h => by rw [hK]; exact hpn h) (fun b hb' j u hu => upC hb (hnews b hb' j u hu)) (by omega)).mono ?_
  rintro e w' ⟨v, rfl, ho, hb⟩
  obtain ⟨a2, c2, rfl⟩ := own_sl1 ho
  exact ⟨a2, c2, rfl, own_base ho (by have := hV.size; rw [HSZ.out.1] at this; exact this), ho.lt, hb⟩
 have HD : Hid (Below W0.heap.size W0 W0.drew) := (Below.refl _ _).drew
 have HDA : Hid (Below W0.heap.size W0 (W0.drew.alloc (.cells #[.int .i64 0, .slice none 0 0, .slice none 0 0] 56))) := HD.out.alloc HD.out.size _
 have HKD : Hid (∀ i (hi : i < (toL n.kids).length) (V : World), Below w.heap.size w V → ∃ d', InV V.heap.size V d' (toL n.kids)[i] (xs[i]'(by omega)).vals) := fun i hi V hV => by
  obtain ⟨d', hk⟩ := hkid i hi
  exact ⟨d', (hk.later hV d').base hV.size d'⟩
 have HN : Hid (xs.length = (toL n.kids).length ∧ op = n.op ∧ cn = n.cl.length ∧ pn = (toL n.kids).length ∧ cn ≤ 24 ∧ pn ≤ 400) := ⟨hxl, hop, hcn, hK, hcn4, hK4⟩
 have hKi : (pn : Int) ≤ 400 := by omega
 clear HP hin hok hcnt hop hcn hK hcl hkid hpn hnews hrd hnil hK4 hcn4 hax
 go_enter Tryd.func41, Tryd.ntmps41
 go_upto_region 1 with fail
 rw [← hH, ← hW0]
 clear hH hW0
 go_cut [3] from 6 to 14 (fun x3 wx => ∃ T A1 a1 c1 a2 c2, x3 = .pointer (some ⟨T, 0, none⟩) ∧ TuAt (H + 2) A1 T d n a1 a2 cn c1 pn c2 xs 0 xs wx ∧ Below W0.heap.size W0 wx ∧ H + 2 ≤ A1)
 case first =>
  go_region_held3 (fun w' => w'.cell? ⟨H, 0, none⟩ = some (.int .i64 op) ∧ w'.cell? ⟨H, 1, none⟩ = some (.slice ca cn cc) ∧ w'.cell? ⟨H, 2, none⟩ = some (.slice pa pn pc))
   (first | exact HUP.out _ HD.out | exact HUP.out _ HTZ.out.2.2 | exact HUP.out _ (Below.refl _ _) | exact HUP.out _ HDA.out | exact HUP.out _ HB3.out | exact HUP.out _ (HB3.out.alloc HB3.out.size _) | exact HUP.out _ HA1.out.2 | exact HUP.out _ (HA1.out.2.alloc HA1.out.2.size _))
   (first
    | (go_at_call 34; refine (HCI.out _ (by first | exact HD.out | exact HDA.out)).mono ?_; rintro e w2 ⟨a1, c1, rfl, ho1, hb2⟩; have HA1 : Hid (w2.ownsRow (H + 2) 3 1 (.slice a1 cn c1) cn (n.cl.map (Value.int .i64)) ∧ Below W0.heap.size W0 w2) := ⟨ho1, by first | exact HD.out.trans (hb2.mono HD.out.size) | exact HDA.out.trans (hb2.mono HDA.out.size)⟩; have HBA : Hid (Below _ _ w2) := hb2; clear ho1 hb2)
    | (go_at_call 59; refine (HCN.out _ (by first | exact HA1.out.2 | exact HA1.out.2.alloc HA1.out.2.size _)).mono ?_; rintro e w3 ⟨a2, c2, rfl, ho2, hlt2, hb3⟩; have HB3 : Hid (Below W0.heap.size W0 w3) := by { first | exact HA1.out.2.trans (hb3.mono HA1.out.2.size) | exact (HA1.out.2.alloc HA1.out.2.size _).trans (hb3.mono (HA1.out.2.alloc HA1.out.2.size _).size) }; have HF : Hid (w3.ownsRow (H + 2) 3 1 (.slice a1 cn c1) cn (n.cl.map (Value.int .i64)) ∧ w3.ownsRow (H + 2) 56 3 (.slice a2 pn c2) pn (flatN xs)) := ⟨by { first | exact own_later5 HA1.out.1 hb3 | exact own_later5 (own_later5 HA1.out.1 ((Below.refl _ w2).alloc (Nat.le_refl _) _)) hb3 }, ho2⟩; have HL2 : Hid _ := hlt2; have HBB : Hid (Below _ _ w3) := hb3; (first | (have hTZ := tz_a HBA.out hb3) | (have hTZ := tz_b hb3) | skip); (first | (have hk := tz_cells hTZ.1; obtain ⟨k0, k1, k2, z0, z1, z2⟩ := hk; have HTZ : Hid _ := tz_all op a1 a2 cn c1 pn c2 hTZ HB3.out (by first | exact Nat.le_refl _ | exact HA1.out.2.size) hlt2; clear hTZ) | skip); clear ho2 hb3 hlt2))
  all_goals
   go_wp2_with fail
   go_meet
   obtain rfl := HN.out.2.1
   first
    | exact ⟨_, _, a1, c1, a2, c2, rfl, tu_begin HN.out.1 HF.out.1 HF.out.2 HTZ.out.1 HTZ.out.2.1, HTZ.out.2.2, by have := HB3.out.size; have := HSZ.out.1; omega⟩
    | exact ⟨_, _, a1, c1, a2, c2, rfl, tu_begin2 HN.out.1 HF.out.1 HF.out.2, HB3.out.alloc HB3.out.size _, by have := HB3.out.size; have := HSZ.out.1; omega⟩
 case rest =>
  obtain ⟨T, A1, a1, c1, a2, c2, hx3, hta, hbc, hA12⟩ := hcut
  subst hx3
  obtain ⟨w1, hw1⟩ : ∃ W, W = wc := ⟨_, rfl⟩
  rw [← hw1] at hta hbc ⊢
  clear hw1 HCI HCN HD HDA HUP
  have HTA : Hid (TuAt (H + 2) A1 T d n a1 a2 cn c1 pn c2 xs 0 xs w1) := hta
  have HB1 : Hid (Below W0.heap.size W0 w1) := hbc
  have HA12 : Hid (H + 2 ≤ A1) := hA12
  clear hA12
  have HTT : Hid (∀ (k : Nat) (ys : List Nk) (V : World), TuAt (H + 2) A1 T d n a1 a2 cn c1 pn c2 xs k ys V → V.cell? ⟨T, 0, none⟩ = some (.int .i64 op) ∧ V.cell? ⟨T, 1, none⟩ = some (.slice a1 cn c1) ∧ V.cell? ⟨T, 2, none⟩ = some (.slice a2 pn c2)) := fun k ys V hV => by
   obtain ⟨_, _, _, h3, _⟩ := hV
   rw [HN.out.2.1]
   exact ⟨cell_of_row V T 0 _ _ _ h3, cell_of_row V T 1 _ _ _ h3, cell_of_row V T 2 _ _ _ h3⟩
  have HFIN : Hid (∀ V : World, NwV (H + 2) V (d + 1) n.rev [.int .i64 n.op, .slice a1 cn c1, .slice a2 pn c2] → V.heap[T]? = some (.cells #[.int .i64 n.op, .slice a1 cn c1, .slice a2 pn c2] 56) → Below W0.heap.size W0 V → ((V.cell? ⟨H + 1, 0, none⟩ = some (.int .i64 0) ∧ V.cell? ⟨H + 1, 1, none⟩ = some (.slice none 0 0) ∧ V.cell? ⟨H + 1, 2, none⟩ = some (.slice none 0 0)) ∧ (V.frozen? ⟨H + 1, 0, none⟩ = false ∧ V.frozen? ⟨H + 1, 1, none⟩ = false ∧ V.frozen? ⟨H + 1, 2, none⟩ = false) ∧ V.cell? ⟨T, 0, none⟩ = some (.int .i64 op) ∧ V.cell? ⟨T, 1, none⟩ = some (.slice a1 cn c1) ∧ V.cell? ⟨T, 2, none⟩ = some (.slice a2 pn c2)) ∧ TuPost (d + 1) n w (.returned (.agg #[.int .i64 op, .slice a1 cn c1, .slice a2 pn c2])) (F3 V (H + 1) 0 ⟨op, a1, cn, c1, a2, pn, c2⟩)) := fun V h1 h2 h3 => by
   obtain ⟨s1, s2⟩ := HSZ.out
   have h4 : V.heap[H + 1]? = some (.cells #[.int .i64 0, .slice none 0 0, .slice none 0 0] 56) := (h3.block (H + 1) (by omega)).trans HRX.out
   obtain ⟨q1, q2, q3, q4, q5, q6⟩ := tz_cells h4
   rw [HN.out.2.1]
   refine ⟨⟨⟨q1, q2, q3⟩, ⟨q4, q5, q6⟩, cell_of_row V T 0 _ _ _ h2, cell_of_row V T 1 _ _ _ h2, cell_of_row V T 2 _ _ _ h2⟩, ⟨n.op, a1, cn, c1, a2, pn, c2⟩, rfl, ?_, ?_⟩
   ·exact (h1.grown (f3_grown V (H + 1) 0 _) (fun g hg => by cases hg; omega) (d + 1)).mono (by omega) (d + 1)
   ·exact f3_below (HB0.out.trans (h3.mono HB0.out.size)) (Nat.le_refl _) (by omega) 0 _
  obtain ⟨t0, t1, t2⟩ := HTT.out 0 xs w1 hta
  clear hta hbc t0 t1
  go_wp2
  go_loopw [18] (fun x18 wr => ∃ k : Nat, k ≤ pn ∧ x18 = .int .i64 k ∧ ∃ ys, TuAt (H + 2) A1 T d n a1 a2 cn c1 pn c2 xs k ys wr ∧ Below W0.heap.size W0 wr) (fun x18 _ => pn - (intOf x18).toNat)
  case atStart => exact ⟨0, by omega, rfl, xs, HTA.out, HB1.out⟩
  case round =>
   obtain ⟨k, hk, hx18, ys, hta, hbr⟩ := hrel
   subst hx18
   have HT : Hid (TuAt (H + 2) A1 T d n a1 a2 cn c1 pn c2 xs k ys wr) := hta
   have HBR : Hid (Below W0.heap.size W0 wr) := hbr
   clear hbr t2
   by_cases hlt : k < pn
   ·have hkn : k < (toL n.kids).length := by have := HN.out; omega
    obtain ⟨hyl, ho, h2_, h3, h4_, hys, hA1, hTA, hgT⟩ := hta
    obtain ⟨g, rfl, hBg, cur, hg, hsz, htk, hcs⟩ := own_cells3 ho (by omega)
    obtain ⟨i0, i1, i2⟩ := hcs k (by omega)
    have hxk : ys[k]'(by omega) = xs[k]'(by have := HN.out.1; omega) := by
     have := hys k (Nat.le_refl _)
     rw [List.getElem?_eq_getElem (by omega), List.getElem?_eq_getElem (by have := HN.out.1; omega)] at this
     exact Option.some.inj this
    rw [hxk] at i0 i1 i2
    obtain ⟨x, hx⟩ : ∃ x, x = xs[k]'(by have := HN.out.1; omega) := ⟨_, rfl⟩
    have HKX : Hid (∀ V : World, Below w.heap.size w V → ∃ d', InV V.heap.size V d' (toL n.kids)[k] x.vals) := by rw [hx]; exact HKD.out k hkn
    rw [← hx] at i0 i1 i2
    clear hx hxk
    obtain ⟨xo, xa, xn, xc, xp, xk, xd⟩ := x
    obtain ⟨P, hP⟩ : ∃ P, P = wr.heap.size := ⟨_, rfl⟩
    obtain ⟨W1, hW1⟩ : ∃ W1, W1 = wr.alloc (.cells #[.int .i64 xo, .slice xa xn xc, .slice xp xk xd] 56) := ⟨_, rfl⟩
    have HBW : Hid (Below wr.heap.size wr W1) := by rw [hW1]; exact (Below.refl _ wr).alloc (Nat.le_refl _) _
    have hpb : W1.heap[P]? = some (.cells #[.int .i64 xo, .slice xa xn xc, .slice xp xk xd] 56) := by rw [hW1, hP]; exact heap_alloc_new wr _
    have hT1 := HT.out.later HBW.out
    have HUPS : Hid (∀ V : World, Below W1.heap.size W1 V → V.cell? ⟨T, 2, none⟩ = some (.slice (some ⟨g, 0, none⟩) pn c2) ∧ V.cell? ⟨P, 0, none⟩ = some (.int .i64 xo) ∧ V.cell? ⟨P, 1, none⟩ = some (.slice xa xn xc) ∧ V.cell? ⟨P, 2, none⟩ = some (.slice xp xk xd)) := fun V hV =>
     ⟨(HTT.out k ys V (hT1.later hV)).2.2, upC hV (cell_of_row W1 P 0 _ _ _ hpb), upC hV (cell_of_row W1 P 1 _ _ _ hpb), upC hV (cell_of_row W1 P 2 _ _ _ hpb)⟩
    have HC : Hid (∀ V : World, Below W1.heap.size W1 V → Calls Tryd.prog 41 #[.agg #[.int .i64 xo, .slice xa xn xc, .slice xp xk xd]] V (TuPost d (toL n.kids)[k] V)) := fun V hV => by
     have hb0 : Below wr.heap.size wr V := HBW.out.trans (hV.mono HBW.out.size)
     have hb1 : Below W0.heap.size W0 V := HBR.out.trans (hb0.mono HBR.out.size)
     obtain ⟨d', hi⟩ := HKX.out V (HB0.out.trans (hb1.mono HB0.out.size))
     have ha := HALL.out _ (List.getElem_mem hkn)
     exact HPC.out d' _ xo xa xp xn xc xk xd V hi ha.1 ha.2
    have HDW : Hid (Below W1.heap.size W1 W1.drew) := (Below.refl _ _).drew
    have hgg := hgT g rfl
    have HNX : Hid (∀ (V : World) (y : Nk), Below W1.heap.size W1 V → NwV W1.drew.heap.size V d (toL n.kids)[k].rev y.vals → ((V.cell? ⟨g, k * 3, none⟩ = some (.int .i64 xo) ∧ V.cell? ⟨g, k * 3 + 1, none⟩ = some (.slice xa xn xc) ∧ V.cell? ⟨g, k * 3 + 2, none⟩ = some (.slice xp xk xd)) ∧ V.frozen? ⟨g, k * 3, none⟩ = false ∧ V.frozen? ⟨g, k * 3 + 1, none⟩ = false ∧ V.frozen? ⟨g, k * 3 + 2, none⟩ = false) ∧ (∃ zs, TuAt (H + 2) A1 T d n a1 (some ⟨g, 0, none⟩) cn c1 pn c2 xs (k + 1) zs (F3 V g (k * 3) y)) ∧ Below W0.heap.size W0 (F3 V g (k * 3) y) ∧ (F3 V g (k * 3) y).cell? ⟨T, 2, none⟩ = some (.slice (some ⟨g, 0, none⟩) pn c2) ∧ (F3 V g (k * 3) y).cell? ⟨P, 0, none⟩ = some (.int .i64 xo) ∧ (F3 V g (k * 3) y).cell? ⟨P, 1, none⟩ = some (.slice xa xn xc) ∧ (F3 V g (k * 3) y).cell? ⟨P, 2, none⟩ = some (.slice xp xk xd)) := fun V y hV hy => by
     have hb0 : Below wr.heap.size wr V := HBW.out.trans (hV.mono HBW.out.size)
     have hgV : V.heap[g]? = some (.cells cur 56 (0, 0)) := (hb0.block g (Array.getElem?_eq_some_iff.1 hg).1).trans hg
     have hb1 : Below W0.heap.size W0 V := HBR.out.trans (hb0.mono HBR.out.size)
     have hd : W1.drew.heap.size = W1.heap.size := rfl
     have hy' : NwV A1 V d (toL n.kids)[k].rev y.vals := hy.mono (by have := HBW.out.size; omega) d
     have hgr := f3_grown V g (k * 3) y
     obtain ⟨u1, u2, u3, u4⟩ := HUPS.out V hV
     have hgP : g ≠ P := by have := (Array.getElem?_eq_some_iff.1 hg).1; omega
     have nT : some T ≠ some g := fun e => hgg.1 (Option.some.inj e).symm
     have nP : some P ≠ some g := fun e => hgP (Option.some.inj e).symm
     have hs0 := HSZ.out.1
     exact ⟨⟨⟨upC hb0 i0, upC hb0 i1, upC hb0 i2⟩, Lib.frozen_of_heap hgV _, Lib.frozen_of_heap hgV _, Lib.frozen_of_heap hgV _⟩, ⟨_, (HT.out.later hb0).step hkn hy'⟩, f3_below hb1 (Nat.le_refl _) (by omega) _ _, cell_grown hgr u1 nT, cell_grown hgr u2 nP, cell_grown hgr u3 nP, cell_grown hgr u4 nP⟩
    clear h4_ h2_ ho h3 hys hA1 hTA hgT hBg hg hsz htk hcs hpb hT1 hgg HKX hyl
    go_upto_region 5 with fail
    rw [← hP, ← hW1]
    clear hP hW1 i0 i1 i2
    go_region_held3 (fun w' => w'.cell? ⟨T, 2, none⟩ = some (.slice (some ⟨g, 0, none⟩) pn c2) ∧ w'.cell? ⟨P, 0, none⟩ = some (.int .i64 xo) ∧ w'.cell? ⟨P, 1, none⟩ = some (.slice xa xn xc) ∧ w'.cell? ⟨P, 2, none⟩ = some (.slice xp xk xd))
     (first | exact HUPS.out _ HDW.out | exact HUPS.out _ (Below.refl _ _) | exact HUPS.out _ HB3.out | exact HST.out.2.2)
     (first
      | (go_at_call 41; refine (HC.out _ HDW.out).mono ?_; rintro e w3 ⟨⟨yo, ya, yn, yc, yp, yk, yd⟩, rfl, hnw, hb3⟩; have HB3 : Hid (Below W1.heap.size W1 w3) := HDW.out.trans (hb3.mono HDW.out.size); have hst := HNX.out w3 _ HB3.out hnw; obtain ⟨⟨⟨k0, k1, k2⟩, z0, z1, z2⟩, hst2⟩ := hst; have HST : Hid _ := hst2; clear hst2 hnw hb3))
    go_wp2
    go_roundw
    case rel =>
     obtain ⟨⟨zs, hz⟩, hz2, _⟩ := HST.out
     exact ⟨k + 1, by omega, by go_num, zs, hz, hz2⟩
    case measure => simp [intOf]; omega
   ·obtain rfl : k = pn := by omega
    obtain ⟨t0, t1, t2⟩ := HTT.out _ ys wr hta
    have hyl := hta.1
    have hoo := hta.2.1
    have HEN : Hid (∀ V : World, wr.grownBy V (Value.slice a2 k c2).ownBlock → V.ownsRow (H + 2) 56 3 (.slice a2 k c2) k (flatN (turnK n.op ys)) → (NwV (H + 2) V (d + 1) n.rev [.int .i64 n.op, .slice a1 cn c1, .slice a2 k c2] ∧ V.heap[T]? = some (.cells #[.int .i64 n.op, .slice a1 cn c1, .slice a2 k c2] 56)) ∧ Below W0.heap.size W0 V) := fun V h1 h2 => by
     obtain ⟨_, _, n3, n4, n5, n6⟩ := HN.out
     have hs := HSZ.out.1
     refine ⟨hta.fin n4 n3 n5 n6 h1 h2 HA12.out, HBR.out.grown h1 (by have := HBR.out.size; omega) (fun q hq => by have := (hoo.lt q hq).1; omega)⟩
    have HYL : Hid (ys.length = k) := by have := HN.out.2.2.2.1; show ys.length = k; omega
    by_cases h2 : op = 2
    ·have hb2 : (op == 2) = true := by rw [h2]; rfl
     have HTK : Hid (turnK n.op ys = ys.reverse) := by rw [← HN.out.2.1, h2]; rfl
     have HRV : Hid (Calls Tryd.prog 60 #[.slice a2 k c2] wr fun e w' => e = .returned (.tuple #[]) ∧ wr.grownBy w' (Value.slice a2 k c2).ownBlock ∧ w'.ownsRow (H + 2) 56 3 (.slice a2 k c2) k (flatN ys.reverse)) := by
      have h := revN_any ys (.slice a2 k c2) (H + 2) wr (by rw [HYL.out]; exact hoo) (by have := HN.out; have := HYL.out; omega)
      rw [HYL.out] at h
      exact h
     clear h2 hta hyl hoo
     go_wp2_with fail
     refine HRV.out.mono ?_
     rintro e w5 ⟨rfl, hg5, ho5⟩
     obtain ⟨⟨hn5, hT5⟩, hb5⟩ := HEN.out w5 hg5 (by rw [HTK.out]; exact ho5)
     obtain ⟨⟨⟨r0, r1, r2⟩, ⟨s0, s1, s2⟩, v0, v1, v2⟩, hp⟩ := HFIN.out w5 hn5 hT5 hb5
     have HPP : Hid _ := hp
     clear hp hn5 hT5 hb5 hg5 ho5 t0 t1 t2 HRV HEN HFIN
     go_wp2
     refine bodyPost_ret (v := .agg #[.int .i64 op, .slice a1 cn c1, .slice a2 k c2]) ?_ rfl HPP.out
     rw [results_cell_one rfl]
     go_simp
    ·have hb2 : (op == 2) = false := by rw [beq_eq_false_iff_ne]; exact h2
     have HTK : Hid (turnK n.op ys = ys) := by show turnK n.op ys = ys; rw [← HN.out.2.1]; exact if_neg h2
     obtain ⟨⟨hn5, hT5⟩, hb5⟩ := HEN.out wr ⟨rfl, rfl, rfl, Nat.le_refl _, fun _ _ _ => rfl⟩ (by rw [HTK.out]; exact hoo)
     obtain ⟨⟨⟨r0, r1, r2⟩, ⟨s0, s1, s2⟩, v0, v1, v2⟩, hp⟩ := HFIN.out wr hn5 hT5 hb5
     have HPP : Hid _ := hp
     clear hp hn5 hT5 hb5 t0 t1 t2 HEN HFIN hta hyl hoo
     go_wp2
     refine bodyPost_ret (v := .agg #[.int .i64 op, .slice a1 cn c1, .slice a2 k c2]) ?_ rfl HPP.out
     rw [results_cell_one rfl]
     go_simp
theorem tu_any : (d : Nat) → TuC d
 | 0 => fun D n op ca pa cn cc pn pc w hin hok => by simp [okN] at hok
 | d + 1 => tu_up d (tu_any d)
end Go.Proofs.YtclogekfdmikpaaDoor

/- The walk of Reverse. -/
namespace Go.Proofs.YtclogekfdmikpaaDoor
open Go.RowKit
set_option linter.unusedVariables false
set_option linter.unusedSimpArgs false

theorem new_at3 (w : World) (o1 o2 o3 : Obj) : ((w.alloc o1).alloc o2 |>.alloc o3).heap[w.heap.size]? = some o1 ∧ ((w.alloc o1).alloc o2 |>.alloc o3).heap[w.heap.size + 1]? = some o2 ∧ ((w.alloc o1).alloc o2 |>.alloc o3).heap[w.heap.size + 2]? = some o3 := by
 have b3 := (Below.refl _ ((w.alloc o1).alloc o2)).alloc (Nat.le_refl _) o3
 have b2 := (Below.refl _ (w.alloc o1)).alloc (Nat.le_refl _) o2
 refine ⟨(b3.block _ (by simp; omega)).trans ((b2.block _ (by simp)).trans (heap_alloc_new w o1)), (b3.block _ (by simp)).trans (new_at2 w o1 o2), ?_⟩
 have := heap_alloc_new ((w.alloc o1).alloc o2) o3
 rw [show ((w.alloc o1).alloc o2).heap.size = w.heap.size + 2 by simp] at this
 exact this
set_option maxHeartbeats 4000000 in
theorem rev_any (D : Nat) (n : Nd) (ca pa : Option Addr) (cc pc : Nat) (w : World) (hin : InV w.heap.size w D n [.int .i64 n.op, .slice ca n.cl.length cc, .slice pa (toL n.kids).length pc]) (hok : n.ok = true) :
 Calls Tryd.prog 24 #[.agg #[.int .i64 n.op, .slice ca n.cl.length cc, .slice pa (toL n.kids).length pc]] w (TuPost 32 n w) := by
 have hk := hok
 unfold Nd.ok at hk
 simp only [Bool.and_eq_true, decide_eq_true_eq] at hk
 obtain ⟨hk1, hk2⟩ := hk
 have hwd := wds_le 32 n hk1
 obtain ⟨op, hop⟩ : ∃ op, op = n.op := ⟨_, rfl⟩
 obtain ⟨cn, hcn⟩ : ∃ cn, cn = n.cl.length := ⟨_, rfl⟩
 obtain ⟨K, hK⟩ : ∃ K, K = (toL n.kids).length := ⟨_, rfl⟩
 obtain ⟨W0, hW0⟩ : ∃ W0, W0 = ((w.alloc (.cells #[.int .i64 op, .slice ca cn cc, .slice pa K pc] 56)).alloc (.cells #[.int .i64 0, .slice none 0 0, .slice none 0 0] 56)).alloc (.cells #[.int .i64 268435456] 3) := ⟨_, rfl⟩
 obtain ⟨H, hH⟩ : ∃ H, H = w.heap.size := ⟨_, rfl⟩
 have HB0 : Hid (Below w.heap.size w W0) := by rw [hW0]; exact (((Below.refl _ w).alloc (Nat.le_refl _) _).alloc (by simp) _).alloc (by simp; omega) _
 obtain ⟨b1, b2, b3⟩ := new_at3 w (.cells #[.int .i64 op, .slice ca cn cc, .slice pa K pc] 56) (.cells #[.int .i64 0, .slice none 0 0, .slice none 0 0] 56) (.cells #[.int .i64 268435456] 3)
 rw [← hW0, ← hH] at b1 b2 b3
 have HX : Hid (W0.heap[H]? = some (.cells #[.int .i64 op, .slice ca cn cc, .slice pa K pc] 56) ∧ W0.heap[H + 1]? = some (.cells #[.int .i64 0, .slice none 0 0, .slice none 0 0] 56) ∧ H = w.heap.size) := ⟨b1, b2, hH⟩
 have HC : Hid (Calls Tryd.prog 40 #[.agg #[.int .i64 op, .slice ca cn cc, .slice pa K pc], .int .i64 131072, .pointer (some ⟨H + 2, 0, none⟩)] W0 (BdPost n 268435456 (H + 2) W0)) := by
  rw [hop, hcn, hK]
  exact bd_any 32 D n ca pa cc pc 268435456 (H + 2) 131072 w W0 hin HB0.out (by omega) b3 hk1 (by omega) (by omega) (by omega) (by omega)
 have HT : Hid (∀ V : World, Below w.heap.size w V → Calls Tryd.prog 41 #[.agg #[.int .i64 op, .slice ca cn cc, .slice pa K pc]] V (TuPost 32 n V)) := fun V hV => by
  rw [hop, hcn, hK]
  exact tu_any 32 D n _ ca pa _ cc _ pc V ((hin.later hV D).base hV.size D) hk1 hk2
 have e0 : W0.cell? ⟨H, 0, none⟩ = some (.int .i64 op) := cell_of_row W0 H 0 _ _ _ b1
 have e1 : W0.cell? ⟨H, 1, none⟩ = some (.slice ca cn cc) := cell_of_row W0 H 1 _ _ _ b1
 have e2 : W0.cell? ⟨H, 2, none⟩ = some (.slice pa K pc) := cell_of_row W0 H 2 _ _ _ b1
 rw [← hop, ← hcn, ← hK]
 clear hin hok hk1 hk2 hwd hop hcn hK b1 b2 b3
 go_enter Tryd.func24, Tryd.ntmps24
 go_upto_region 2 with fail
 rw [← hH, ← hW0]
 clear hH hW0
 go_wp2_with fail
 refine HC.out.mono ?_
 rintro e w1 ⟨c', rfl, hg, _, _⟩
 have HB1 : Hid (Below w.heap.size w w1) := HB0.out.grown hg HB0.out.size (fun k hk => by cases hk; have := HX.out.2.2; omega)
 have HX1 : Hid (w1.heap[H]? = some (.cells #[.int .i64 op, .slice ca cn cc, .slice pa K pc] 56) ∧ w1.heap[H + 1]? = some (.cells #[.int .i64 0, .slice none 0 0, .slice none 0 0] 56)) :=
  ⟨(hg.block H (Array.getElem?_eq_some_iff.1 HX.out.1).1 (fun e => by simp at e)).trans HX.out.1, (hg.block (H + 1) (Array.getElem?_eq_some_iff.1 HX.out.2.1).1 (fun e => by simp at e)).trans HX.out.2.1⟩
 have f0 : w1.cell? ⟨H, 0, none⟩ = some (.int .i64 op) := cell_of_row w1 H 0 _ _ _ HX1.out.1
 have f1 : w1.cell? ⟨H, 1, none⟩ = some (.slice ca cn cc) := cell_of_row w1 H 1 _ _ _ HX1.out.1
 have f2 : w1.cell? ⟨H, 2, none⟩ = some (.slice pa K pc) := cell_of_row w1 H 2 _ _ _ HX1.out.1
 clear hg e0 e1 e2 HC
 go_wp2_with fail
 refine (HT.out w1 HB1.out).mono ?_
 rintro e w2 ⟨⟨yo, ya, yn, yc, yp, yk, yd⟩, rfl, hnw, hb2⟩
 have hx2 : w2.heap[H + 1]? = some (.cells #[.int .i64 0, .slice none 0 0, .slice none 0 0] 56) := (hb2.block (H + 1) (Array.getElem?_eq_some_iff.1 HX1.out.2).1).trans HX1.out.2
 obtain ⟨q1, q2, q3, q4, q5, q6⟩ := tz_cells hx2
 have HFN : Hid (TuPost 32 n w (.returned (.agg #[.int .i64 yo, .slice ya yn yc, .slice yp yk yd])) (F3 w2 (H + 1) 0 ⟨yo, ya, yn, yc, yp, yk, yd⟩)) := by
  have hl : H + 1 < w1.heap.size := (Array.getElem?_eq_some_iff.1 HX1.out.2).1
  have hh := HX.out.2.2
  refine ⟨⟨yo, ya, yn, yc, yp, yk, yd⟩, rfl, (hnw.grown (f3_grown w2 (H + 1) 0 _) (fun g hg => by cases hg; exact hl) 32).mono HB1.out.size 32, f3_below (HB1.out.trans (hb2.mono HB1.out.size)) (Nat.le_refl _) (by omega) 0 _⟩
 clear hnw hb2 hx2 f0 f1 f2
 go_wp2
 refine bodyPost_ret (v := .agg #[.int .i64 yo, .slice ya yn yc, .slice yp yk yd]) ?_ rfl HFN.out
 rw [results_cell_one rfl]
 go_simp
end Go.Proofs.YtclogekfdmikpaaDoor
