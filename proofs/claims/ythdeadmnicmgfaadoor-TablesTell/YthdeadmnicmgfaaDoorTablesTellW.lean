/- The walk of TablesTell. -/
import Derived.Test.YthdeadmnicmgfaaDoorJ30
import Derived.Test.YthdeadmnicmgfaaDoorJ32
import Derived.Test.YthdeadmnicmgfaaDoorJ33
namespace Go.Proofs.YthdeadmnicmgfaaDoor
open Go.RowKit Go.Shelf Go.Maps
set_option linter.unusedVariables false
set_option linter.unusedSimpArgs false

theorem any_snoc (G : List Bool) (j : Nat) (hj : j < G.length) : (G.take (j + 1)).any id = ((G.take j).any id || G.getD j false) := by
  rw [take_snoc G j hj, List.any_append]
  simp [List.getD_eq_getElem?_getD, hj]
set_option maxRecDepth 100000 in
set_option maxHeartbeats 8000000 in
theorem tablesTell_walk (D K : Nat) (l : List Rl) (ca ra : Option Addr) (cc rc : Nat) (xs0 : List Int) (xa : Option Addr) (len0 xc : Nat) (w : World) (hT : TabD w) (hr : RowR w D ra l.length l) (hl : l.length ≤ 140737488355328) (hK : K ≤ cc) (hK2 : K ≤ 140737488355328) (hrd : Rd .i64 w xa len0 xs0) (hcap : len0 ≤ xc) :
    Calls Tryd.prog 6 #[.agg #[.slice ca K cc, .slice ra l.length rc], .slice xa len0 xc] w fun e w' => e = .returned (.bool true) ∧ Below w.heap.size w w' := by
  obtain ⟨m, hm⟩ : ∃ m, m = min K 30 := ⟨_, rfl⟩
  obtain ⟨RN, hRN⟩ : ∃ RN, RN = l.length := ⟨_, rfl⟩
  have HTD : Hid (TabD w) := hT
  obtain ⟨n, hn⟩ : ∃ n : Nat, (n : Int) = min (len0 : Int) 20 := ⟨min len0 20, by omega⟩
  have hmin := min_run len0 n 20 hn
  have hcut0 := cutI xa len0 xc n (by omega)
  obtain ⟨row, hrow⟩ : ∃ row, row = xs0.take n := ⟨_, rfl⟩
  have HRD : Hid (Rd .i64 w xa n row) := by rw [hrow]; exact hrd.take n (by omega)
  have HL : Hid (row.length = n) := HRD.out.1
  have hn20 : (n : Int) ≤ 20 := by omega
  have HNC : Hid (n ≤ xc) := by show n ≤ xc; omega
  obtain ⟨i0, ii, iz0, iz1, iz2⟩ := info_parts info_i
  have HI : Hid (Tryd.prog.info? 3 = some i0 ∧ i0.zero = some (.int .i64 0) ∧ i0.size = 1 ∧ i0.bytes = 8) := ⟨ii, iz0, iz1, iz2⟩
  clear hrd hcap hrow hn ii iz0 iz1 iz2
  have HSH : Hid (∀ V : World, Below w.heap.size w V → Calls Tryd.prog 16 #[] V fun e w' => e = .returned (.bool true) ∧ Below V.heap.size V w') := fun V hV => shown9_any V (hT.later hV)
  have HFE : Hid (∀ V : World, Below w.heap.size w V → Calls Tryd.prog 17 #[.agg #[.slice ca K cc, .slice ra RN rc]] V (Few9 D l ca m cc w V)) := fun V hV => by
    rw [hRN]; exact few9_any D K m l ca ra cc rc w V hV hr hl hK hK2 hm
  obtain ⟨H, hH⟩ : ∃ H, H = w.heap.size := ⟨_, rfl⟩
  have HH : Hid (H = w.heap.size) := hH
  obtain ⟨W0, hW0⟩ : ∃ W0, W0 = w.alloc (.cells #[.slice ca K cc, .slice ra RN rc] 47) := ⟨_, rfl⟩
  have HB0 : Hid (Below w.heap.size w W0) := by rw [hW0]; exact (Below.refl _ w).alloc (Nat.le_refl _) _
  have HX0 : Hid (W0.heap[H]? = some (.cells #[.slice ca K cc, .slice ra RN rc] 47)) := by show _ = _; rw [hW0, hH]; exact heap_alloc_new w _
  have hm30 : (m : Int) ≤ 30 := by omega
  rw [← hRN]
  clear hT hr hl hK hK2 hm hRN
  go_enter Tryd.func6, Tryd.ntmps6
  go_upto_region 1 with fail
  rw [← hH, ← hW0]
  clear hH hW0
  go_wp2_with fail
  refine (HSH.out W0 HB0.out).mono ?_
  rintro e w1 ⟨rfl, hb1⟩
  have HB1 : Hid (Below w.heap.size w w1) := HB0.out.trans (hb1.mono HB0.out.size)
  have HX1 : Hid (w1.heap[H]? = some (.cells #[.slice ca K cc, .slice ra RN rc] 47)) := (hb1.block H (Array.getElem?_eq_some_iff.1 HX0.out).1).trans HX0.out
  clear hb1 HX0 HB0
  obtain ⟨⟨e0, e1⟩, _⟩ := box2 HX1.out
  go_wp2_with fail
  refine (HFE.out w1 HB1.out).mono ?_
  rintro e w2 ⟨hb2, ps, a', c', rfl, h8, hkr, hown⟩
  have HB2 : Hid (Below w.heap.size w w2) := HB1.out.trans (hb2.mono HB1.out.size)
  have hx2 : w2.heap[H]? = some (.cells #[.slice ca K cc, .slice ra RN rc] 47) := (hb2.block H (Array.getElem?_eq_some_iff.1 HX1.out).1).trans HX1.out
  obtain ⟨rl, hrl⟩ : ∃ rl, rl = ps.map fun x => x.1 := ⟨_, rfl⟩
  obtain ⟨N, hN⟩ : ∃ N, N = ps.length := ⟨_, rfl⟩
  have hNr : N = rl.length := by rw [hN, hrl]; simp
  rw [← hN] at h8 ⊢
  obtain ⟨W3, hW3⟩ : ∃ W3, W3 = (w2.setCell ⟨H, 0, none⟩ (.slice ca m cc)).setCell ⟨H, 1, none⟩ (.slice a' N c') := ⟨_, rfl⟩
  have hg3 : w2.grownBy W3 (some H) := by rw [hW3]; exact grown_all (grown_cell w2 H 0 _) (grown_cell _ H 1 _)
  have HB3 : Hid (Below w.heap.size w W3) := HB2.out.grown hg3 HB2.out.size (fun k hk => by cases hk; exact Nat.le_of_eq HH.out.symm)
  have HX3 : Hid (W3.heap[H]? = some (.cells #[.slice ca m cc, .slice a' N c'] 47)) := by
    show _ = _
    rw [hW3]
    exact heap_setCell_same _ H 1 _ _ _ (heap_setCell_same _ H 0 _ _ _ hx2)
  have HKR : Hid (KeptR w D l ps) := hkr
  have HPS : Hid (rl = ps.map (fun x => x.1) ∧ N = ps.length) := ⟨hrl, hN⟩
  have HOWN : Hid (W3.ownsRow w1.heap.size 64 8 (.slice a' N c') N (flR ps)) := by
    rw [← hN] at hown; exact hown.kept hg3 (.inr (own_ne hown hx2 (by decide)))
  have hro : RowR W3 D a' rl.length rl := by
    rw [hrl]
    exact kept_row hkr HB3.out (hown.kept hg3 (.inr (own_ne hown hx2 (by decide))))
  have HRO : Hid (RowR W3 D a' rl.length rl ∧ N = rl.length) := ⟨hro, hNr⟩
  obtain ⟨⟨y0, y1⟩, y2, y3⟩ := box2 hx2
  have hN8 : (N : Int) ≤ 8 := by omega
  clear hb2 hkr hown hrl hg3 hro hNr hx2 e0 e1 hN
  go_upto_region 3 with fail
  rw [← hW3]
  clear hW3 y0 y1 y2 y3
  have HCP : Hid (Calls Tryd.prog 18 #[.agg #[.slice ca m cc, .slice a' N c']] W3 (CmpP m rl W3)) := by
    rw [HRO.out.2]; exact compile_any D m rl ca a' cc c' W3 (HTD.out.later HB3.out) HRO.out.1 (by have := HRO.out.2; omega)
  obtain ⟨⟨e0, e1⟩, _⟩ := box2 HX3.out
  go_wp2_with fail
  refine HCP.out.mono ?_
  rintro e w4 ⟨hb4, hor⟩
  have HB4 : Hid (Below w.heap.size w w4) := HB3.out.trans (hb4.mono HB3.out.size)
  rcases hor with ⟨_, rfl⟩ | ⟨hcm, ⟨rfl, _⟩ | ⟨tb, rfl, htw, hta, hnb1, hnb2⟩⟩
  · clear hb4 e0 e1
    go_wp2_with fail
    go_ret
    exact ⟨rfl, HB4.out⟩
  · clear hb4 e0 e1 hcm
    go_wp2_with fail
    go_ret
    exact ⟨rfl, HB4.out⟩
  obtain ⟨hm1, hm24, _⟩ := cm_range hcm
  have HOK : Hid (∀ r, r ∈ rl → okN 32 r.left = true ∧ okN 32 r.right = true) := cm_ok hcm
  rw [Int.toNat_natCast] at hta
  have HX4 : Hid (w4.heap[H]? = some (.cells #[.slice ca m cc, .slice a' N c'] 47)) := (hb4.block H (Array.getElem?_eq_some_iff.1 HX3.out).1).trans HX3.out
  have HR4 : Hid (RowR w4 D a' rl.length rl ∧ N = rl.length) := ⟨HRO.out.1.later hb4, HRO.out.2⟩
  obtain ⟨la, lb, nxA, ouA, nxB, ouB, htb, hma, hla, _, hmb, hlb, _⟩ := hta
  have HT4 : Hid (∀ V : World, Below w4.heap.size w4 V → (V.cell? ⟨tb, 0, none⟩ = some (.pointer (some ⟨la, 0, none⟩)) ∧ V.cell? ⟨tb, 1, none⟩ = some (.pointer (some ⟨lb, 0, none⟩))) ∧ MchAt V la m nxA ouA ∧ MchAt V lb m nxB ouB) := fun V hV => by
    obtain ⟨q0, q1, _⟩ := box4 ((hV.block tb (Array.getElem?_eq_some_iff.1 htb).1).trans htb)
    exact ⟨⟨q0, q1⟩, hma.later hV, hmb.later hV⟩
  have HLE : Hid (LeastOf m (xsL rl) nxA ouA ∧ LeastOf m (xsR rl) nxB ouB) := ⟨hla, hlb⟩
  have HXV : Hid (∀ V : World, Below w4.heap.size w4 V → V.cell? ⟨H, 0, none⟩ = some (.slice ca m cc) ∧ V.cell? ⟨H, 1, none⟩ = some (.slice a' N c')) := fun V hV => (box2 ((hV.block H (Array.getElem?_eq_some_iff.1 HX4.out).1).trans HX4.out)).1
  have HRV : Hid (∀ V : World, Below w4.heap.size w4 V → Rd .i64 V xa n row) := fun V hV => HRD.out.later (HB4.out.trans (hV.mono HB4.out.size))
  clear hb4 htb htw e0 e1 HCP HRO HX3 HB3 HX1 HB1 HB2 hcm hnb1 hnb2 hma hla hmb hlb HX4 hmin hcut0
  obtain ⟨⟨c0, c1⟩, _⟩ := HT4.out w4 (Below.refl _ _)
  go_wp2_with fail
  clear c0 c1
  go_loopw [8, 9] (fun x8 x9 wr => ∃ (j c : Nat) (i : Int) (av : Option Addr), i + 1 + (j : Int) = (n : Int) ∧ -1 ≤ i ∧ x9 = .int .i64 i ∧ x8 = .slice av j c ∧ Cls m (row.reverse.take j) ∧ wr.ownsRow w4.heap.size 3 1 (.slice av j c) j ((row.reverse.take j).map (Value.int .i64)) ∧ Below w4.heap.size w4 wr) (fun _ x9 _ => (intOf x9 + 1).toNat)
  case atStart => exact ⟨0, 0, (n : Int) - 1, none, by omega, by omega, rfl, rfl, fun c hc => by simp at hc, World.ownsRow_nil _ _ _ _, Below.refl _ _⟩
  case round =>
    obtain ⟨j, c, i, av, hij, hi1, hx9, hx8, hcl, how, hwr⟩ := hrel
    subst hx9 hx8
    have HCL : Hid (Cls m (row.reverse.take j)) := hcl
    have HOW : Hid (wr.ownsRow w4.heap.size 3 1 (.slice av j c) j ((row.reverse.take j).map (Value.int .i64))) := how
    have HBW : Hid (Below w4.heap.size w4 wr) := hwr
    clear hcl how hwr
    by_cases h0 : 0 ≤ i
    · obtain ⟨k, rfl⟩ : ∃ k : Nat, i = (k : Int) := ⟨i.toNat, by omega⟩
      have hkn : k < n := by omega
      obtain ⟨b, off, rfl, hcc⟩ := (HRV.out wr HBW.out).2 (by omega)
      have d3 := hcc k hkn
      obtain ⟨X, hX⟩ : ∃ X, X = row.getD k 0 := ⟨_, rfl⟩
      rw [← hX] at d3
      have HXK : Hid (X = row.getD k 0 ∧ k + 1 + j = n) := ⟨hX, by omega⟩
      obtain ⟨e0, e1⟩ := HXV.out wr HBW.out
      have hkn' : (k : Int) < (n : Int) := by omega
      clear hX hcc hij hi1
      by_cases hX0 : X < 0
      · have g0 : decide (X < 0) = true := decide_eq_true hX0
        go_wp2_with fail
        go_quiet (fail)
        clear d3 e0 e1
        go_wp2_with fail
        go_ret
        exact ⟨rfl, HB4.out.trans ((bdN HBW.out _).mono HB4.out.size)⟩
      have g0 : decide (X < 0) = false := decide_eq_false hX0
      by_cases hXm : (m : Int) ≤ X
      · have g1 : decide ((m : Int) ≤ X) = true := decide_eq_true hXm
        go_wp2_with fail
        go_quiet (fail)
        clear d3 e0 e1
        go_wp2_with fail
        go_ret
        exact ⟨rfl, HB4.out.trans ((bdN HBW.out _).mono HB4.out.size)⟩
      have g1 : decide ((m : Int) ≤ X) = false := decide_eq_false hXm
      have htk : row.reverse.take (j + 1) = row.reverse.take j ++ [X] := by
        have hjl : j < row.reverse.length := by rw [List.length_reverse, HL.out]; have := HXK.out.2; omega
        rw [take_snoc row.reverse j hjl]
        congr 2
        rw [List.getElem_reverse, HXK.out.1, List.getD_eq_getElem?_getD, List.getElem?_eq_getElem (by rw [HL.out]; exact hkn), Option.getD_some]
        congr 1
        have := HXK.out.2
        have := HL.out
        omega
      have HTK : Hid (Cls m (row.reverse.take (j + 1)) ∧ (row.reverse.take (j + 1)).map (Value.int .i64) = (row.reverse.take j).map (Value.int .i64) ++ [.int .i64 X]) := by
        refine ⟨fun c hc => ?_, by rw [htk]; simp⟩
        rw [htk] at hc
        rcases List.mem_append.1 hc with hc | hc
        · exact HCL.out c hc
        · rw [List.mem_singleton.1 hc]; exact ⟨by omega, by omega⟩
      obtain ⟨L, hL⟩ : ∃ L, L = (row.reverse.take j).map (Value.int .i64) := ⟨_, rfl⟩
      rw [← hL] at HTK HOW
      clear htk hL HCL hX0 hXm
      go_wp2_with fail
      go_quiet (fail)
      obtain ⟨wq, hwq⟩ : ∃ wq, wq = wr.drewN nq := ⟨_, rfl⟩
      have HCQ : Hid (Below wr.heap.size wr wq) := by rw [hwq]; exact bdN (Below.refl _ wr) nq
      have HBQ : Hid (Below w4.heap.size w4 wq) := HBW.out.trans (HCQ.out.mono HBW.out.size)
      replace d3 := upC HCQ.out d3
      rw [← hwq]
      clear hwq e0 e1 g0 g1
      have HBA : Hid (Below wq.heap.size wq (wq.alloc (.cells #[.int .i64 X] 3))) := (Below.refl _ wq).alloc (Nat.le_refl _) _
      have HOQ : Hid ((wq.alloc (.cells #[.int .i64 X] 3)).ownsRow w4.heap.size 3 1 (.slice av j c) j L) := own_later5 (own_later5 HOW.out HCQ.out) HBA.out
      have hj20 : j ≤ 20 := by have := HXK.out.2; omega
      go_wp2_with (at_builtin; refine wpList_append_lies _ rfl _ _ 35 rfl w4.heap.size 3 i0 _ 1 8 Tryd.underlying35 HI.out.1 HI.out.2.1 HI.out.2.2.1 HI.out.2.2.2 rfl (by decide) (.slice av j c) j L rfl HOQ.out ⟨wq.heap.size, 0, none⟩ 1 1 [.int .i64 X] rfl rfl (World.news_of_block (cs := #[.int .i64 X]) (t := 3) (fr := (0, 0)) (heap_alloc_new wq _)) (by simp [Value.oneCell']) (by omega) (by unfold maxLen; omega) (by omega) (by have := HBQ.out.size; simp; omega) _ rfl (fun g5 cap5 w5 q1 q2 q3 q4 => ?_); have HF5 : Hid (w5.ownsRow w4.heap.size 3 1 (.slice (some ⟨g5, 0, none⟩) (j + 1) cap5) (j + 1) ((row.reverse.take (j + 1)).map (Value.int .i64)) ∧ Below w4.heap.size w4 w5) := (by rw [HTK.out.2]; exact ⟨q1, (HBQ.out.trans (HBA.out.mono HBQ.out.size)).grown q2 (by have := HBQ.out.size; simp; omega) (fun y hy => (own_lt HOQ.out hy).1)⟩); clear q1 q2 q3 q4 d3)
      go_roundw
      case rel => exact ⟨j + 1, cap5, (k : Int) - 1, some ⟨g5, 0, none⟩, by have := HXK.out.2; omega, by omega, by go_num, rfl, HTK.out.1, HF5.out.1, HF5.out.2⟩
      case measure => simp [intOf]
    · obtain rfl : i = -1 := by omega
      obtain rfl : n = j := by omega
      have hrev : row.reverse.take n = row.reverse := List.take_of_length_le (by rw [List.length_reverse, HL.out]; omega)
      rw [hrev] at HCL HOW
      have HCR : Hid (Cls m row) := fun c hc => HCL.out c (List.mem_reverse.2 hc)
      have HRB : Hid (∀ V : World, Below wr.heap.size wr V → Rd .i64 V av n row.reverse) := fun V hV => by
        obtain ⟨a2, c2, e2, _, _, hr, _⟩ := rd_own2 HOW.out
        cases e2
        exact hr.later hV
      obtain ⟨⟨c0, c1⟩, hma, hmb⟩ := HT4.out wr HBW.out
      have HC5 : Hid (Calls Tryd.prog 24 #[.pointer (some ⟨la, 0, none⟩), .slice xa n xc] wr (RunP m nxA ouA row wr)) := by
        have hle := HLE.out.1
        have h := run_any wr la m nxA ouA row xa xc hma hle.asMet hle.wide hle.len (by rw [HL.out]; exact HRV.out wr HBW.out) (by have := HL.out; omega)
        rw [HL.out] at h
        exact h
      clear hrev hma hmb HOW HCL hij hi1 h0
      go_wp2_with fail
      refine HC5.out.mono ?_
      rintro e w5 ⟨hb5, hor⟩
      have HB5 : Hid (Below w4.heap.size w4 w5) := HBW.out.trans (hb5.mono HBW.out.size)
      have HR5 : Hid (Rd .i64 w5 av n row.reverse) := HRB.out w5 hb5
      rw [HL.out] at hor
      rcases hor with ⟨hnc, _⟩ | ⟨_, ga, capa, rfl, howa⟩
      · exact absurd HCR.out hnc
      have HOA : Hid (w5.ownsRow wr.heap.size 56 1 (.slice (some ⟨ga, 0, none⟩) (n + 1) capa) (n + 1) (uv (runO nxA ouA (row.map Int.toNat) (n + 1)))) := howa
      clear hb5 howa c0 c1 HC5 HRB
      obtain ⟨⟨c0, c1⟩, hma, hmb⟩ := HT4.out w5 HB5.out
      have HC6 : Hid (Calls Tryd.prog 24 #[.pointer (some ⟨lb, 0, none⟩), .slice av n c] w5 (RunP m nxB ouB row.reverse w5)) := by
        have hle := HLE.out.2
        have hlr : row.reverse.length = n := by rw [List.length_reverse, HL.out]
        have h := run_any w5 lb m nxB ouB row.reverse av c hmb hle.asMet hle.wide hle.len (by rw [hlr]; exact HR5.out) (by omega)
        rw [hlr] at h
        exact h
      clear hma hmb
      go_wp2_with fail
      refine HC6.out.mono ?_
      rintro e w6 ⟨hb6, hor⟩
      have HB6 : Hid (Below w4.heap.size w4 w6) := HB5.out.trans (hb6.mono HB5.out.size)
      rw [List.length_reverse, HL.out] at hor
      rcases hor with ⟨hnc, _⟩ | ⟨_, gb, capb, rfl, howb⟩
      · exact absurd (cls_rev HCR.out) hnc
      obtain ⟨OA, hOA⟩ : ∃ OA : Nat → Nat, ∀ i, OA i = ouR nxA ouA row i := ⟨_, fun _ => rfl⟩
      obtain ⟨OB, hOB⟩ : ∃ OB : Nat → Nat, ∀ i, OB i = ouR nxB ouB row.reverse i := ⟨_, fun _ => rfl⟩
      have HAC0 : Hid (∀ V : World, Below w6.heap.size w6 V → ∀ i, i < n + 1 → V.cell? ⟨ga, i, none⟩ = some (.int .u64 ((OA i : Nat) : Int))) := fun V hV i hi => by rw [hOA]; exact upC hV (run_told HOA.out hb6 i hi)
      have HBC0 : Hid (∀ V : World, Below w6.heap.size w6 V → ∀ i, i < n + 1 → V.cell? ⟨gb, i, none⟩ = some (.int .u64 ((OB i : Nat) : Int))) := fun V hV i hi => by rw [hOB]; exact run_told howb hV i hi
      have HTL : Hid (∀ i, i ≤ n → ∀ k (hk : k < rl.length) (G : List Bool), G.length = i + 1 → (rl[k].start = true → EndsR rl[k].left.fits (row.take i) (fromB i) G) → (rl[k].start = false → EndsR rl[k].left.fits (row.take i) (List.replicate (i + 1) true) G) → OA i / 2 ^ k % 2 = if G.getD i false = true then 1 else 0) := fun i hi k hk G hG h1 h2 => by
        rw [hOA, bit_mod, tell_left (k := k) (x := (rl[k].left, rl[k].start)) HLE.out.1 HCR.out (by simp [xsL, hk]) (by rw [HL.out]; exact hi) hG h1 h2]
      have HTR : Hid (∀ i q, i ≤ n → q = n - i → ∀ k (hk : k < rl.length) (G : List Bool), EndsR rl[k].right.fits (row.drop i) (fromB q) G → OB q / 2 ^ k % 2 = if G.any id = true then 1 else 0) := fun i q hi hq k hk G hE => by
        rw [hOB, bit_mod, tell_right HLE.out.2 HCR.out hk (HOK.out _ (List.getElem_mem hk)).2 (by rw [HL.out]; exact hi) (by rw [HL.out]; exact hq) hE]
      have HS6 : Hid (w4.heap.size ≤ w6.heap.size) := HB6.out.size
      have HR6 : Hid (∀ V : World, Below w6.heap.size w6 V → RowR V D a' rl.length rl ∧ Rd .i64 V xa n row ∧ V.cell? ⟨H, 1, none⟩ = some (.slice a' N c')) := fun V hV => by
        have h4 := HB6.out.trans (hV.mono HB6.out.size)
        exact ⟨HR4.out.1.later h4, HRV.out V h4, (HXV.out V h4).2⟩
      have HNR : Hid (N = rl.length) := HR4.out.2
      have HBE : Hid (Below w.heap.size w w6) := HB4.out.trans (HB6.out.mono HB4.out.size)
      clear hb6 howb c0 c1 HC6 hOA hOB HOA HR5 HB5 HRV HXV HR4 HT4 HLE HB4 HBW HI
      go_wp2_with fail
      go_loopw [14] (fun x14 wz => ∃ i : Nat, i ≤ n + 1 ∧ x14 = .int .i64 (i : Int) ∧ Below w6.heap.size w6 wz) (fun x14 _ => n + 1 - (intOf x14).toNat)
      case atStart => exact ⟨0, by omega, rfl, Below.refl _ _⟩
      case round =>
        obtain ⟨i, hi, hx14, hwr⟩ := hrel
        subst hx14
        have HBI : Hid (Below w6.heap.size w6 wr) := hwr
        clear hwr
        by_cases hin : i ≤ n
        · have hini : (i : Int) ≤ (n : Int) := by omega
          have hci := cutI xa n xc i (by have := HNC.out; omega)
          obtain ⟨a2, hcf, hrf⟩ := cutI_from (a := xa) (len := n) (cap := xc) i hin HNC.out
          obtain ⟨q, hq⟩ : ∃ q, q = n - i := ⟨_, rfl⟩
          have HQ : Hid (q = n - i) := hq
          obtain ⟨qc, hqc⟩ : ∃ qc, qc = xc - i := ⟨_, rfl⟩
          rw [← hq, ← hqc] at hcf
          rw [← hq] at hrf
          have hqi : (q : Int) + (i : Int) = (n : Int) := by omega
          have HRF : Hid (∀ (w : World) (xs : List Int), Rd .i64 w xa n xs → Rd .i64 w a2 q (xs.drop i)) := hrf
          clear hq hqc hrf hi
          go_wp2_with fail
          go_loopw [15] (fun x15 wz => ∃ k : Nat, k ≤ N ∧ x15 = .int .i64 (k : Int) ∧ Below w6.heap.size w6 wz) (fun x15 _ => N - (intOf x15).toNat)
          case atStart => exact ⟨0, by omega, rfl, HBI.out⟩
          case round =>
            obtain ⟨k, hk, hx15, hwr⟩ := hrel
            subst hx15
            have HBK : Hid (Below w6.heap.size w6 wr) := hwr
            clear hwr
            by_cases hkN : k < N
            · have hkl : k < rl.length := by rw [← HNR.out]; exact hkN
              have hkNi : (k : Int) < (N : Int) := by omega
              obtain ⟨hrow, _, e1⟩ := HR6.out wr HBK.out
              obtain ⟨b0, off0, q0, rfl, hr0, t0, t1, t2, t3, t4, t5, t6, t7⟩ := hrow.cells k hkl
              obtain ⟨pla, plc, plp, plpc, pra, prc, prp, prpc⟩ := q0
              obtain ⟨r, hrr⟩ : ∃ r, r = rl[k] := ⟨_, rfl⟩
              have HRR : Hid (r = rl[k]) := hrr
              obtain ⟨hokl, hokr⟩ := HOK.out rl[k] (List.getElem_mem hkl)
              rw [← hrr] at t0 t1 t2 t3 t4 t5 t6 t7 hr0 hokl hokr
              have hrr0 : ∀ V : World, Below wr.heap.size wr V → RlAt V D r ⟨pla, plc, plp, plpc, pra, prc, prp, prpc⟩ := fun V hV => hr0.later hV
              have HSU : Hid (∀ V : World, Below wr.heap.size wr V → Calls Tryd.prog 25 #[.agg #[.int .i64 r.left.op, .slice pla r.left.cl.length plc, .slice plp (toL r.left.kids).length plpc], .slice xa i xc] V (EnPost r.left.fits (row.take i) (List.replicate (i + 1) true) (i + 1) V)) := fun V hV =>
                suffix_any D r.left 32 pla plp plc plpc V (row.take i) xa i xc (hrr0 V hV).1 hokl ((HR6.out V (HBK.out.trans (hV.mono HBK.out.size))).2.1.take i hin) (by omega)
              have HWL : Hid (∀ V : World, Below wr.heap.size wr V → Calls Tryd.prog 26 #[.agg #[.int .i64 r.left.op, .slice pla r.left.cl.length plc, .slice plp (toL r.left.kids).length plpc], .slice xa i xc] V (EnPost r.left.fits (row.take i) (fromB i) (i + 1) V)) := fun V hV =>
                whole_any D r.left 32 pla plp plc plpc V (row.take i) xa i xc (hrr0 V hV).1 hokl ((HR6.out V (HBK.out.trans (hV.mono HBK.out.size))).2.1.take i hin) (by omega)
              have HWR : Hid (∀ V : World, Below wr.heap.size wr V → Calls Tryd.prog 26 #[.agg #[.int .i64 r.right.op, .slice pra r.right.cl.length prc, .slice prp (toL r.right.kids).length prpc], .slice a2 q qc] V (EnPost r.right.fits (row.drop i) (fromB q) (q + 1) V)) := fun V hV =>
                whole_any D r.right 32 pra prp prc prpc V (row.drop i) a2 q qc (hrr0 V hV).2 hokr (HRF.out V row (HR6.out V (HBK.out.trans (hV.mono HBK.out.size))).2.1) (by omega)
              obtain ⟨lo, hlo⟩ : ∃ lo, lo = r.left.op := ⟨_, rfl⟩
              obtain ⟨ln, hln⟩ : ∃ ln, ln = r.left.cl.length := ⟨_, rfl⟩
              obtain ⟨lk, hlk⟩ : ∃ lk, lk = (toL r.left.kids).length := ⟨_, rfl⟩
              obtain ⟨ro, hro⟩ : ∃ ro, ro = r.right.op := ⟨_, rfl⟩
              obtain ⟨rn, hrn⟩ : ∃ rn, rn = r.right.cl.length := ⟨_, rfl⟩
              obtain ⟨rk, hrk⟩ : ∃ rk, rk = (toL r.right.kids).length := ⟨_, rfl⟩
              obtain ⟨st, hst⟩ : ∃ st, st = r.start := ⟨_, rfl⟩
              obtain ⟨br, hbr⟩ : ∃ br, br = r.brk := ⟨_, rfl⟩
              have HST : Hid (st = r.start) := hst
              simp only [← hlo, ← hln, ← hlk, ← hro, ← hrn, ← hrk, ← hst, ← hbr] at HSU HWL HWR t0 t1 t2 t3 t4 t5 t6 t7
              clear hlo hln hlk hro hrn hrk hst hbr hrr hr0 hrr0 hokl hokr hrow
              obtain ⟨S, hS⟩ : ∃ S, S = wr.heap.size := ⟨_, rfl⟩
              obtain ⟨W7, hW7⟩ : ∃ W7, W7 = wr.alloc (.cells #[.int .i64 lo, .slice pla ln plc, .slice plp lk plpc, .int .i64 ro, .slice pra rn prc, .slice prp rk prpc, .bool br, .bool st] 64) := ⟨_, rfl⟩
              have HCW7 : Hid (Below wr.heap.size wr W7) := by rw [hW7]; exact (Below.refl _ wr).alloc (Nat.le_refl _) _
              have HX7 : Hid (W7.heap[S]? = some (.cells #[.int .i64 lo, .slice pla ln plc, .slice plp lk plpc, .int .i64 ro, .slice pra rn prc, .slice prp rk prpc, .bool br, .bool st] 64)) := by show _ = _; rw [hS, hW7]; exact heap_alloc_new wr _
              have HBX : Hid (∀ V : World, Below W7.heap.size W7 V → V.heap[S]? = some (.cells #[.int .i64 lo, .slice pla ln plc, .slice plp lk plpc, .int .i64 ro, .slice pra rn prc, .slice prp rk prpc, .bool br, .bool st] 64)) := fun V hV => (hV.block S (Array.getElem?_eq_some_iff.1 HX7.out).1).trans HX7.out
              have HAC : Hid (∀ V : World, Below wr.heap.size wr V → ∀ i, i < n + 1 → V.cell? ⟨ga, i, none⟩ = some (.int .u64 ((OA i : Nat) : Int))) := fun V hV => HAC0.out V (HBK.out.trans (hV.mono HBK.out.size))
              have HBC : Hid (∀ V : World, Below wr.heap.size wr V → ∀ i, i < n + 1 → V.cell? ⟨gb, i, none⟩ = some (.int .u64 ((OB i : Nat) : Int))) := fun V hV => HBC0.out V (HBK.out.trans (hV.mono HBK.out.size))
              go_upto_region 25 with fail
              rw [← hS, ← hW7]
              clear hS hW7 t0 t1 t2 t3 t4 t5 t6 t7 e1 HX7
              obtain ⟨t0', t1', t2', t3', t4', t5', t6', t7'⟩ := box8 (HBX.out W7 (Below.refl _ _))
              have HBW7 : Hid (Below wr.heap.size wr W7) := HCW7.out
              refine wp_region_noPanic ?_
              refine wp_region_held_drew (S := (fun w' => Below W7.heap.size W7 w')) (by kernel_rfl) (Below.refl _ W7).drew (fun hHeld => ?_)
              refine wpAnyH_take (i := 0) (v := ?_) rfl (by kernel_rfl) (by kernel_rfl) (by kernel_rfl) (fun _ _ _ h => h) (Or.inl ⟨by rfl, ?_⟩) (by assumption) ?_
              rotate_left
              · intro wS hSw; have t0 := upC hSw t0'; have t1 := upC hSw t1'; have t2 := upC hSw t2'; have t3 := upC hSw t3'; have t4 := upC hSw t4'; have t5 := upC hSw t5'; clear hSw; go_simp; try with_reducible rfl
              try simp only [Act.put, List.getElem_toArray, List.getElem_cons_succ, List.getElem_cons_zero, List.setIfInBounds_toArray, List.set_cons_zero, List.set_cons_succ]
              refine wpAnyH_take (i := 1) (v := ?_) rfl (by kernel_rfl) (by kernel_rfl) (by kernel_rfl) (fun _ _ _ h => h) (Or.inl ⟨by rfl, ?_⟩) (by assumption) ?_
              rotate_left
              · intro wS hSw; have t0 := upC hSw t0'; have t1 := upC hSw t1'; have t2 := upC hSw t2'; have t3 := upC hSw t3'; have t4 := upC hSw t4'; have t5 := upC hSw t5'; clear hSw; go_simp; try with_reducible rfl
              try simp only [Act.put, List.getElem_toArray, List.getElem_cons_succ, List.getElem_cons_zero, List.setIfInBounds_toArray, List.set_cons_zero, List.set_cons_succ]
              refine wpAnyH_take (i := 2) (v := ?_) rfl (by kernel_rfl) (by kernel_rfl) (by kernel_rfl) (fun _ _ _ h => h) (Or.inl ⟨by rfl, ?_⟩) (by assumption) ?_
              rotate_left
              · intro wS hSw; have t0 := upC hSw t0'; have t1 := upC hSw t1'; have t2 := upC hSw t2'; have t3 := upC hSw t3'; have t4 := upC hSw t4'; have t5 := upC hSw t5'; clear hSw; go_simp; try with_reducible rfl
              try simp only [Act.put, List.getElem_toArray, List.getElem_cons_succ, List.getElem_cons_zero, List.setIfInBounds_toArray, List.set_cons_zero, List.set_cons_succ]
              refine wpAnyH_take (i := 3) (v := ?_) rfl (by kernel_rfl) (by kernel_rfl) (by kernel_rfl) (fun _ _ _ h => h) (Or.inl ⟨by rfl, ?_⟩) (by assumption) ?_
              rotate_left
              · intro wS hSw; have t0 := upC hSw t0'; have t1 := upC hSw t1'; have t2 := upC hSw t2'; have t3 := upC hSw t3'; have t4 := upC hSw t4'; have t5 := upC hSw t5'; clear hSw; go_simp; try with_reducible rfl
              try simp only [Act.put, List.getElem_toArray, List.getElem_cons_succ, List.getElem_cons_zero, List.setIfInBounds_toArray, List.set_cons_zero, List.set_cons_succ]
              refine wpAnyH_take (i := 4) (v := ?_) rfl (by kernel_rfl) (by kernel_rfl) (by kernel_rfl) (fun _ _ _ h => h) (Or.inl ⟨by rfl, ?_⟩) (by assumption) ?_
              rotate_left
              · intro wS hSw; have t0 := upC hSw t0'; have t1 := upC hSw t1'; have t2 := upC hSw t2'; have t3 := upC hSw t3'; have t4 := upC hSw t4'; have t5 := upC hSw t5'; clear hSw; go_simp; try with_reducible rfl
              try simp only [Act.put, List.getElem_toArray, List.getElem_cons_succ, List.getElem_cons_zero, List.setIfInBounds_toArray, List.set_cons_zero, List.set_cons_succ]
              refine wpAnyH_ready (rs := [5]) (by kernel_rfl) (by simp) ?_
              refine AllReadyH.cons rfl (fun KK hK => ?_) AllReadyH.nil
              go_simp
              refine (HSU.out _ HBW7.out.drew).mono ?_
              rintro e w8 ⟨va, Ga, rfl, hGa, hEa, hba⟩
              have HCw8 : Hid (Below W7.heap.size W7 w8) := below_undrew (by simpa using hba)
              have HBw8 : Hid (Below wr.heap.size wr w8) := HBW7.out.trans (HCw8.out.mono HBW7.out.size)
              obtain ⟨faa, fca, rfl, _, _, hra⟩ := rdT_own hGa
              have HEa : Hid (EndsR _ _ _ Ga) := hEa
              have HRa : Hid (RdT w8 faa _ Ga) := hra
              clear hGa hEa hba hra
              go_simp
              refine hK.out _ _ HCw8.out (fun hHeld => ?_)
              clear hK KK
              try simp only [Act.put, List.getElem_toArray, List.getElem_cons_succ, List.getElem_cons_zero, List.setIfInBounds_toArray, List.set_cons_zero, List.set_cons_succ]
              refine wpAnyH_ready (rs := [6]) (by kernel_rfl) (by simp) ?_
              refine AllReadyH.cons rfl (fun KK hK => ?_) AllReadyH.nil
              go_simp
              refine hK.out _ _ HCw8.out (fun hHeld => ?_)
              clear hK KK
              try simp only [Act.put, List.getElem_toArray, List.getElem_cons_succ, List.getElem_cons_zero, List.setIfInBounds_toArray, List.set_cons_zero, List.set_cons_succ]
              refine wpAnyH_done (by kernel_rfl) ?_ _
              refine NoPanic.normal ?_
              have HXw8 : Hid (Below W7.heap.size W7 w8) := HCw8.out
              have t7 := upC HCw8.out t7'
              cases st with
              | false =>
                clear t0' t1' t2' t3' t4' t5' t6' t7'
                obtain ⟨t0', t1', t2', t3', t4', t5', t6', t7'⟩ := box8 (HBX.out w8 HXw8.out)
                obtain ⟨fb, fo, rfl, hcla⟩ := HRa.out.2 (by omega)
                have hGl := HRa.out.1
                obtain ⟨tl, htl⟩ : ∃ tl, tl = Ga.getD i false := ⟨_, rfl⟩
                have HLC : Hid (∀ V : World, Below w8.heap.size w8 V → V.cell? ⟨fb, fo + i, none⟩ = some (.bool tl)) := fun V hV => by rw [htl]; exact upC hV (hcla i (by omega))
                have HLT : Hid (OA i / 2 ^ k % 2 = if tl = true then 1 else 0) := by
                  show OA i / 2 ^ k % 2 = if tl = true then 1 else 0
                  rw [htl]
                  exact HTL.out i (by omega) k hkl Ga hGl (fun h => by rw [← HRR.out, ← HST.out] at h; cases h) (fun _ => by rw [← HRR.out]; exact HEa.out)
                clear hGl htl hcla
                go_upto_region 28 with fail
                refine wp_region_noPanic ?_
                refine wp_region_held_drew (S := (fun w' => Below w8.heap.size w8 w')) (by kernel_rfl) (Below.refl _ w8).drew (fun hHeld => ?_)
                refine wpAnyH_take (i := 0) (v := ?_) rfl (by kernel_rfl) (by kernel_rfl) (by kernel_rfl) (fun _ _ _ h => h) (Or.inl ⟨by rfl, ?_⟩) (by assumption) ?_
                rotate_left
                · intro wS hSw; have t0 := upC hSw t0'; have t1 := upC hSw t1'; have t2 := upC hSw t2'; have t3 := upC hSw t3'; have t4 := upC hSw t4'; have t5 := upC hSw t5'; clear hSw; go_simp; try with_reducible rfl
                try simp only [Act.put, List.getElem_toArray, List.getElem_cons_succ, List.getElem_cons_zero, List.setIfInBounds_toArray, List.set_cons_zero, List.set_cons_succ]
                refine wpAnyH_take (i := 1) (v := ?_) rfl (by kernel_rfl) (by kernel_rfl) (by kernel_rfl) (fun _ _ _ h => h) (Or.inl ⟨by rfl, ?_⟩) (by assumption) ?_
                rotate_left
                · intro wS hSw; have t0 := upC hSw t0'; have t1 := upC hSw t1'; have t2 := upC hSw t2'; have t3 := upC hSw t3'; have t4 := upC hSw t4'; have t5 := upC hSw t5'; clear hSw; go_simp; try with_reducible rfl
                try simp only [Act.put, List.getElem_toArray, List.getElem_cons_succ, List.getElem_cons_zero, List.setIfInBounds_toArray, List.set_cons_zero, List.set_cons_succ]
                refine wpAnyH_take (i := 2) (v := ?_) rfl (by kernel_rfl) (by kernel_rfl) (by kernel_rfl) (fun _ _ _ h => h) (Or.inl ⟨by rfl, ?_⟩) (by assumption) ?_
                rotate_left
                · intro wS hSw; have t0 := upC hSw t0'; have t1 := upC hSw t1'; have t2 := upC hSw t2'; have t3 := upC hSw t3'; have t4 := upC hSw t4'; have t5 := upC hSw t5'; clear hSw; go_simp; try with_reducible rfl
                try simp only [Act.put, List.getElem_toArray, List.getElem_cons_succ, List.getElem_cons_zero, List.setIfInBounds_toArray, List.set_cons_zero, List.set_cons_succ]
                refine wpAnyH_take (i := 3) (v := ?_) rfl (by kernel_rfl) (by kernel_rfl) (by kernel_rfl) (fun _ _ _ h => h) (Or.inl ⟨by rfl, ?_⟩) (by assumption) ?_
                rotate_left
                · intro wS hSw; have t0 := upC hSw t0'; have t1 := upC hSw t1'; have t2 := upC hSw t2'; have t3 := upC hSw t3'; have t4 := upC hSw t4'; have t5 := upC hSw t5'; clear hSw; go_simp; try with_reducible rfl
                try simp only [Act.put, List.getElem_toArray, List.getElem_cons_succ, List.getElem_cons_zero, List.setIfInBounds_toArray, List.set_cons_zero, List.set_cons_succ]
                refine wpAnyH_take (i := 4) (v := ?_) rfl (by kernel_rfl) (by kernel_rfl) (by kernel_rfl) (fun _ _ _ h => h) (Or.inl ⟨by rfl, ?_⟩) (by assumption) ?_
                rotate_left
                · intro wS hSw; have t0 := upC hSw t0'; have t1 := upC hSw t1'; have t2 := upC hSw t2'; have t3 := upC hSw t3'; have t4 := upC hSw t4'; have t5 := upC hSw t5'; clear hSw; go_simp; try with_reducible rfl
                try simp only [Act.put, List.getElem_toArray, List.getElem_cons_succ, List.getElem_cons_zero, List.setIfInBounds_toArray, List.set_cons_zero, List.set_cons_succ]
                refine wpAnyH_ready (rs := [5]) (by kernel_rfl) (by simp) ?_
                refine AllReadyH.cons rfl (fun KK hK => ?_) AllReadyH.nil
                go_simp
                refine (HWR.out _ HBw8.out.drew).mono ?_
                rintro e wn ⟨vn, Gn, rfl, hGn, hEn, hbn⟩
                have HCwn : Hid (Below w8.heap.size w8 wn) := below_undrew (by simpa using hbn)
                have HBwn : Hid (Below wr.heap.size wr wn) := HBw8.out.trans (HCwn.out.mono HBw8.out.size)
                obtain ⟨fan, fcn, rfl, _, _, hrn⟩ := rdT_own hGn
                have HEn : Hid (EndsR _ _ _ Gn) := hEn
                have HRn : Hid (RdT wn fan _ Gn) := hrn
                clear hGn hEn hbn hrn
                go_simp
                refine hK.out _ _ HCwn.out (fun hHeld => ?_)
                clear hK KK
                try simp only [Act.put, List.getElem_toArray, List.getElem_cons_succ, List.getElem_cons_zero, List.setIfInBounds_toArray, List.set_cons_zero, List.set_cons_succ]
                refine wpAnyH_ready (rs := [6]) (by kernel_rfl) (by simp) ?_
                refine AllReadyH.cons rfl (fun KK hK => ?_) AllReadyH.nil
                go_simp
                refine hK.out _ _ HCwn.out (fun hHeld => ?_)
                clear hK KK
                try simp only [Act.put, List.getElem_toArray, List.getElem_cons_succ, List.getElem_cons_zero, List.setIfInBounds_toArray, List.set_cons_zero, List.set_cons_succ]
                refine wpAnyH_done (by kernel_rfl) ?_ _
                refine NoPanic.normal ?_
                have hGn := HRn.out.1
                obtain ⟨hb', ho', rfl, hcn⟩ := HRn.out.2 (by omega)
                have HNC2 : Hid (∀ j, j < q + 1 → wn.cell? ⟨hb', ho' + j, none⟩ = some (.bool (Gn.getD j false))) := hcn
                have HGN : Hid (Gn.length = q + 1) := hGn
                have HRT : Hid (OB q / 2 ^ k % 2 = if Gn.any id = true then 1 else 0) := HTR.out i q (by omega) HQ.out k hkl Gn (by rw [← HRR.out]; exact HEn.out)
                clear hcn hGn t0' t1' t2' t3' t4' t5' t6' t7'
                go_wp2_with fail
                go_loopw [19, 20] (fun x19 x20 wz => ∃ j : Nat, j ≤ q + 1 ∧ x20 = .int .i64 (j : Int) ∧ x19 = .bool ((Gn.take j).any id) ∧ wz = wn) (fun _ x20 _ => q + 1 - (intOf x20).toNat)
                case atStart => exact ⟨0, by omega, rfl, by simp, rfl⟩
                case round =>
                  obtain ⟨j, hj, hx20, hx19, hwr⟩ := hrel
                  subst hx20 hx19
                  obtain rfl : wn = wr := hwr.symm
                  by_cases hlt : j < q + 1
                  · have hji : (j : Int) < (q : Int) + 1 := by omega
                    have d4 := HNC2.out j hlt
                    have hnx := any_snoc Gn j (by rw [HGN.out]; exact hlt)
                    obtain ⟨tj, htj⟩ : ∃ tj, tj = Gn.getD j false := ⟨_, rfl⟩
                    obtain ⟨bb, hbb⟩ : ∃ bb, bb = (Gn.take j).any id := ⟨_, rfl⟩
                    rw [← htj] at d4 hnx
                    rw [← hbb] at hnx ⊢
                    have HNX : Hid ((Gn.take (j + 1)).any id = (bb || tj)) := hnx
                    clear hnx htj hbb
                    cases bb
                    all_goals
                      go_wp2_with fail
                      go_roundw
                      case rel => exact ⟨j + 1, by omega, by go_num, by rw [HNX.out]; rfl, trivial⟩
                      case measure => simp [intOf]; omega
                  · have hji : ¬ (j : Int) < (q : Int) + 1 := by omega
                    rw [List.take_of_length_le (by rw [HGN.out]; omega)]
                    obtain ⟨tr, htr⟩ : ∃ tr, tr = Gn.any id := ⟨_, rfl⟩
                    rw [← htr] at HRT ⊢
                    obtain ⟨Y, hY⟩ : ∃ Y, Y = OA i := ⟨_, rfl⟩
                    obtain ⟨Z, hZ⟩ : ∃ Z, Z = OB q := ⟨_, rfl⟩
                    have d1 := HAC.out wn HBwn.out i (by omega)
                    have d2 := HLC.out wn HCwn.out
                    have d3 := HBC.out wn HBwn.out q (by omega)
                    rw [← hY] at d1 HLT
                    rw [← hZ] at d3 HRT
                    have hbe1 := bit_eq HLT.out
                    have hbe2 := bit_eq HRT.out
                    have hi0 : (0 : Int) ≤ (i : Int) := by omega
                    have hi1 : (i : Int) < (n : Int) + 1 := by omega
                    have hi2 : (i : Int) < (i : Int) + 1 := by omega
                    have hq0 : (0 : Int) ≤ (q : Int) := by omega
                    have hq1 : (q : Int) < (n : Int) + 1 := by omega
                    have hsub : (n : Int) - (i : Int) = (q : Int) := by omega
                    clear hY hZ htr hj
                    go_wp2_with fail
                    go_quiet (fail)
                    clear d1 d2 d3 hbe1 hbe2 hsub
                    go_wp2_with fail
                    go_roundw
                    case rel => exact ⟨k + 1, by omega, by go_num, bdN (HBK.out.trans (HBwn.out.mono HBK.out.size)) _⟩
                    case measure => simp [intOf]; omega
              | true =>
                clear t0' t1' t2' t3' t4' t5' t6' t7'
                obtain ⟨t0', t1', t2', t3', t4', t5', t6', t7'⟩ := box8 (HBX.out w8 HXw8.out)
                go_upto_region 27 with fail
                refine wp_region_noPanic ?_
                refine wp_region_held_drew (S := (fun w' => Below w8.heap.size w8 w')) (by kernel_rfl) (Below.refl _ w8).drew (fun hHeld => ?_)
                refine wpAnyH_take (i := 0) (v := ?_) rfl (by kernel_rfl) (by kernel_rfl) (by kernel_rfl) (fun _ _ _ h => h) (Or.inl ⟨by rfl, ?_⟩) (by assumption) ?_
                rotate_left
                · intro wS hSw; have t0 := upC hSw t0'; have t1 := upC hSw t1'; have t2 := upC hSw t2'; have t3 := upC hSw t3'; have t4 := upC hSw t4'; have t5 := upC hSw t5'; clear hSw; go_simp; try with_reducible rfl
                try simp only [Act.put, List.getElem_toArray, List.getElem_cons_succ, List.getElem_cons_zero, List.setIfInBounds_toArray, List.set_cons_zero, List.set_cons_succ]
                refine wpAnyH_take (i := 1) (v := ?_) rfl (by kernel_rfl) (by kernel_rfl) (by kernel_rfl) (fun _ _ _ h => h) (Or.inl ⟨by rfl, ?_⟩) (by assumption) ?_
                rotate_left
                · intro wS hSw; have t0 := upC hSw t0'; have t1 := upC hSw t1'; have t2 := upC hSw t2'; have t3 := upC hSw t3'; have t4 := upC hSw t4'; have t5 := upC hSw t5'; clear hSw; go_simp; try with_reducible rfl
                try simp only [Act.put, List.getElem_toArray, List.getElem_cons_succ, List.getElem_cons_zero, List.setIfInBounds_toArray, List.set_cons_zero, List.set_cons_succ]
                refine wpAnyH_take (i := 2) (v := ?_) rfl (by kernel_rfl) (by kernel_rfl) (by kernel_rfl) (fun _ _ _ h => h) (Or.inl ⟨by rfl, ?_⟩) (by assumption) ?_
                rotate_left
                · intro wS hSw; have t0 := upC hSw t0'; have t1 := upC hSw t1'; have t2 := upC hSw t2'; have t3 := upC hSw t3'; have t4 := upC hSw t4'; have t5 := upC hSw t5'; clear hSw; go_simp; try with_reducible rfl
                try simp only [Act.put, List.getElem_toArray, List.getElem_cons_succ, List.getElem_cons_zero, List.setIfInBounds_toArray, List.set_cons_zero, List.set_cons_succ]
                refine wpAnyH_take (i := 3) (v := ?_) rfl (by kernel_rfl) (by kernel_rfl) (by kernel_rfl) (fun _ _ _ h => h) (Or.inl ⟨by rfl, ?_⟩) (by assumption) ?_
                rotate_left
                · intro wS hSw; have t0 := upC hSw t0'; have t1 := upC hSw t1'; have t2 := upC hSw t2'; have t3 := upC hSw t3'; have t4 := upC hSw t4'; have t5 := upC hSw t5'; clear hSw; go_simp; try with_reducible rfl
                try simp only [Act.put, List.getElem_toArray, List.getElem_cons_succ, List.getElem_cons_zero, List.setIfInBounds_toArray, List.set_cons_zero, List.set_cons_succ]
                refine wpAnyH_take (i := 4) (v := ?_) rfl (by kernel_rfl) (by kernel_rfl) (by kernel_rfl) (fun _ _ _ h => h) (Or.inl ⟨by rfl, ?_⟩) (by assumption) ?_
                rotate_left
                · intro wS hSw; have t0 := upC hSw t0'; have t1 := upC hSw t1'; have t2 := upC hSw t2'; have t3 := upC hSw t3'; have t4 := upC hSw t4'; have t5 := upC hSw t5'; clear hSw; go_simp; try with_reducible rfl
                try simp only [Act.put, List.getElem_toArray, List.getElem_cons_succ, List.getElem_cons_zero, List.setIfInBounds_toArray, List.set_cons_zero, List.set_cons_succ]
                refine wpAnyH_ready (rs := [5]) (by kernel_rfl) (by simp) ?_
                refine AllReadyH.cons rfl (fun KK hK => ?_) AllReadyH.nil
                go_simp
                refine (HWL.out _ HBw8.out.drew).mono ?_
                rintro e w9 ⟨vb, Gb, rfl, hGb, hEb, hbb⟩
                have HCw9 : Hid (Below w8.heap.size w8 w9) := below_undrew (by simpa using hbb)
                have HBw9 : Hid (Below wr.heap.size wr w9) := HBw8.out.trans (HCw9.out.mono HBw8.out.size)
                obtain ⟨fab, fcb, rfl, _, _, hrb⟩ := rdT_own hGb
                have HEb : Hid (EndsR _ _ _ Gb) := hEb
                have HRb : Hid (RdT w9 fab _ Gb) := hrb
                clear hGb hEb hbb hrb
                go_simp
                refine hK.out _ _ HCw9.out (fun hHeld => ?_)
                clear hK KK
                try simp only [Act.put, List.getElem_toArray, List.getElem_cons_succ, List.getElem_cons_zero, List.setIfInBounds_toArray, List.set_cons_zero, List.set_cons_succ]
                refine wpAnyH_ready (rs := [6]) (by kernel_rfl) (by simp) ?_
                refine AllReadyH.cons rfl (fun KK hK => ?_) AllReadyH.nil
                go_simp
                refine hK.out _ _ HCw9.out (fun hHeld => ?_)
                clear hK KK
                try simp only [Act.put, List.getElem_toArray, List.getElem_cons_succ, List.getElem_cons_zero, List.setIfInBounds_toArray, List.set_cons_zero, List.set_cons_succ]
                refine wpAnyH_done (by kernel_rfl) ?_ _
                refine NoPanic.normal ?_
                have HXw9 : Hid (Below W7.heap.size W7 w9) := HXw8.out.trans (HCw9.out.mono HXw8.out.size)
                clear t0' t1' t2' t3' t4' t5' t6' t7'
                obtain ⟨t0', t1', t2', t3', t4', t5', t6', t7'⟩ := box8 (HBX.out w9 HXw9.out)
                clear t7
                obtain ⟨fb, fo, rfl, hclb⟩ := HRb.out.2 (by omega)
                have hGl := HRb.out.1
                obtain ⟨tl, htl⟩ : ∃ tl, tl = Gb.getD i false := ⟨_, rfl⟩
                have HLC : Hid (∀ V : World, Below w9.heap.size w9 V → V.cell? ⟨fb, fo + i, none⟩ = some (.bool tl)) := fun V hV => by rw [htl]; exact upC hV (hclb i (by omega))
                have HLT : Hid (OA i / 2 ^ k % 2 = if tl = true then 1 else 0) := by
                  show OA i / 2 ^ k % 2 = if tl = true then 1 else 0
                  rw [htl]
                  exact HTL.out i (by omega) k hkl Gb hGl (fun _ => by rw [← HRR.out]; exact HEb.out) (fun h => by rw [← HRR.out, ← HST.out] at h; cases h)
                clear hGl htl hclb
                go_upto_region 28 with fail
                refine wp_region_noPanic ?_
                refine wp_region_held_drew (S := (fun w' => Below w9.heap.size w9 w')) (by kernel_rfl) (Below.refl _ w9).drew (fun hHeld => ?_)
                refine wpAnyH_take (i := 0) (v := ?_) rfl (by kernel_rfl) (by kernel_rfl) (by kernel_rfl) (fun _ _ _ h => h) (Or.inl ⟨by rfl, ?_⟩) (by assumption) ?_
                rotate_left
                · intro wS hSw; have t0 := upC hSw t0'; have t1 := upC hSw t1'; have t2 := upC hSw t2'; have t3 := upC hSw t3'; have t4 := upC hSw t4'; have t5 := upC hSw t5'; clear hSw; go_simp; try with_reducible rfl
                try simp only [Act.put, List.getElem_toArray, List.getElem_cons_succ, List.getElem_cons_zero, List.setIfInBounds_toArray, List.set_cons_zero, List.set_cons_succ]
                refine wpAnyH_take (i := 1) (v := ?_) rfl (by kernel_rfl) (by kernel_rfl) (by kernel_rfl) (fun _ _ _ h => h) (Or.inl ⟨by rfl, ?_⟩) (by assumption) ?_
                rotate_left
                · intro wS hSw; have t0 := upC hSw t0'; have t1 := upC hSw t1'; have t2 := upC hSw t2'; have t3 := upC hSw t3'; have t4 := upC hSw t4'; have t5 := upC hSw t5'; clear hSw; go_simp; try with_reducible rfl
                try simp only [Act.put, List.getElem_toArray, List.getElem_cons_succ, List.getElem_cons_zero, List.setIfInBounds_toArray, List.set_cons_zero, List.set_cons_succ]
                refine wpAnyH_take (i := 2) (v := ?_) rfl (by kernel_rfl) (by kernel_rfl) (by kernel_rfl) (fun _ _ _ h => h) (Or.inl ⟨by rfl, ?_⟩) (by assumption) ?_
                rotate_left
                · intro wS hSw; have t0 := upC hSw t0'; have t1 := upC hSw t1'; have t2 := upC hSw t2'; have t3 := upC hSw t3'; have t4 := upC hSw t4'; have t5 := upC hSw t5'; clear hSw; go_simp; try with_reducible rfl
                try simp only [Act.put, List.getElem_toArray, List.getElem_cons_succ, List.getElem_cons_zero, List.setIfInBounds_toArray, List.set_cons_zero, List.set_cons_succ]
                refine wpAnyH_take (i := 3) (v := ?_) rfl (by kernel_rfl) (by kernel_rfl) (by kernel_rfl) (fun _ _ _ h => h) (Or.inl ⟨by rfl, ?_⟩) (by assumption) ?_
                rotate_left
                · intro wS hSw; have t0 := upC hSw t0'; have t1 := upC hSw t1'; have t2 := upC hSw t2'; have t3 := upC hSw t3'; have t4 := upC hSw t4'; have t5 := upC hSw t5'; clear hSw; go_simp; try with_reducible rfl
                try simp only [Act.put, List.getElem_toArray, List.getElem_cons_succ, List.getElem_cons_zero, List.setIfInBounds_toArray, List.set_cons_zero, List.set_cons_succ]
                refine wpAnyH_take (i := 4) (v := ?_) rfl (by kernel_rfl) (by kernel_rfl) (by kernel_rfl) (fun _ _ _ h => h) (Or.inl ⟨by rfl, ?_⟩) (by assumption) ?_
                rotate_left
                · intro wS hSw; have t0 := upC hSw t0'; have t1 := upC hSw t1'; have t2 := upC hSw t2'; have t3 := upC hSw t3'; have t4 := upC hSw t4'; have t5 := upC hSw t5'; clear hSw; go_simp; try with_reducible rfl
                try simp only [Act.put, List.getElem_toArray, List.getElem_cons_succ, List.getElem_cons_zero, List.setIfInBounds_toArray, List.set_cons_zero, List.set_cons_succ]
                refine wpAnyH_ready (rs := [5]) (by kernel_rfl) (by simp) ?_
                refine AllReadyH.cons rfl (fun KK hK => ?_) AllReadyH.nil
                go_simp
                refine (HWR.out _ HBw9.out.drew).mono ?_
                rintro e wn ⟨vn, Gn, rfl, hGn, hEn, hbn⟩
                have HCwn : Hid (Below w9.heap.size w9 wn) := below_undrew (by simpa using hbn)
                have HBwn : Hid (Below wr.heap.size wr wn) := HBw9.out.trans (HCwn.out.mono HBw9.out.size)
                obtain ⟨fan, fcn, rfl, _, _, hrn⟩ := rdT_own hGn
                have HEn : Hid (EndsR _ _ _ Gn) := hEn
                have HRn : Hid (RdT wn fan _ Gn) := hrn
                clear hGn hEn hbn hrn
                go_simp
                refine hK.out _ _ HCwn.out (fun hHeld => ?_)
                clear hK KK
                try simp only [Act.put, List.getElem_toArray, List.getElem_cons_succ, List.getElem_cons_zero, List.setIfInBounds_toArray, List.set_cons_zero, List.set_cons_succ]
                refine wpAnyH_ready (rs := [6]) (by kernel_rfl) (by simp) ?_
                refine AllReadyH.cons rfl (fun KK hK => ?_) AllReadyH.nil
                go_simp
                refine hK.out _ _ HCwn.out (fun hHeld => ?_)
                clear hK KK
                try simp only [Act.put, List.getElem_toArray, List.getElem_cons_succ, List.getElem_cons_zero, List.setIfInBounds_toArray, List.set_cons_zero, List.set_cons_succ]
                refine wpAnyH_done (by kernel_rfl) ?_ _
                refine NoPanic.normal ?_
                have hGn := HRn.out.1
                obtain ⟨hb', ho', rfl, hcn⟩ := HRn.out.2 (by omega)
                have HNC2 : Hid (∀ j, j < q + 1 → wn.cell? ⟨hb', ho' + j, none⟩ = some (.bool (Gn.getD j false))) := hcn
                have HGN : Hid (Gn.length = q + 1) := hGn
                have HRT : Hid (OB q / 2 ^ k % 2 = if Gn.any id = true then 1 else 0) := HTR.out i q (by omega) HQ.out k hkl Gn (by rw [← HRR.out]; exact HEn.out)
                clear hcn hGn t0' t1' t2' t3' t4' t5' t6' t7'
                go_wp2_with fail
                go_loopw [19, 20] (fun x19 x20 wz => ∃ j : Nat, j ≤ q + 1 ∧ x20 = .int .i64 (j : Int) ∧ x19 = .bool ((Gn.take j).any id) ∧ wz = wn) (fun _ x20 _ => q + 1 - (intOf x20).toNat)
                case atStart => exact ⟨0, by omega, rfl, by simp, rfl⟩
                case round =>
                  obtain ⟨j, hj, hx20, hx19, hwr⟩ := hrel
                  subst hx20 hx19
                  obtain rfl : wn = wr := hwr.symm
                  by_cases hlt : j < q + 1
                  · have hji : (j : Int) < (q : Int) + 1 := by omega
                    have d4 := HNC2.out j hlt
                    have hnx := any_snoc Gn j (by rw [HGN.out]; exact hlt)
                    obtain ⟨tj, htj⟩ : ∃ tj, tj = Gn.getD j false := ⟨_, rfl⟩
                    obtain ⟨bb, hbb⟩ : ∃ bb, bb = (Gn.take j).any id := ⟨_, rfl⟩
                    rw [← htj] at d4 hnx
                    rw [← hbb] at hnx ⊢
                    have HNX : Hid ((Gn.take (j + 1)).any id = (bb || tj)) := hnx
                    clear hnx htj hbb
                    cases bb
                    all_goals
                      go_wp2_with fail
                      go_roundw
                      case rel => exact ⟨j + 1, by omega, by go_num, by rw [HNX.out]; rfl, trivial⟩
                      case measure => simp [intOf]; omega
                  · have hji : ¬ (j : Int) < (q : Int) + 1 := by omega
                    rw [List.take_of_length_le (by rw [HGN.out]; omega)]
                    obtain ⟨tr, htr⟩ : ∃ tr, tr = Gn.any id := ⟨_, rfl⟩
                    rw [← htr] at HRT ⊢
                    obtain ⟨Y, hY⟩ : ∃ Y, Y = OA i := ⟨_, rfl⟩
                    obtain ⟨Z, hZ⟩ : ∃ Z, Z = OB q := ⟨_, rfl⟩
                    have d1 := HAC.out wn HBwn.out i (by omega)
                    have d2 := HLC.out wn HCwn.out
                    have d3 := HBC.out wn HBwn.out q (by omega)
                    rw [← hY] at d1 HLT
                    rw [← hZ] at d3 HRT
                    have hbe1 := bit_eq HLT.out
                    have hbe2 := bit_eq HRT.out
                    have hi0 : (0 : Int) ≤ (i : Int) := by omega
                    have hi1 : (i : Int) < (n : Int) + 1 := by omega
                    have hi2 : (i : Int) < (i : Int) + 1 := by omega
                    have hq0 : (0 : Int) ≤ (q : Int) := by omega
                    have hq1 : (q : Int) < (n : Int) + 1 := by omega
                    have hsub : (n : Int) - (i : Int) = (q : Int) := by omega
                    clear hY hZ htr hj
                    go_wp2_with fail
                    go_quiet (fail)
                    clear d1 d2 d3 hbe1 hbe2 hsub
                    go_wp2_with fail
                    go_roundw
                    case rel => exact ⟨k + 1, by omega, by go_num, bdN (HBK.out.trans (HBwn.out.mono HBK.out.size)) _⟩
                    case measure => simp [intOf]; omega
            · have hkNi : ¬ (k : Int) < (N : Int) := by omega
              obtain ⟨_, _, e1⟩ := HR6.out wr HBK.out
              go_wp2_with fail
              go_roundw
              case rel => exact ⟨i + 1, by omega, by go_num, HBK.out⟩
              case measure => simp [intOf]; omega
        · have hini : ¬ (i : Int) ≤ (n : Int) := by omega
          go_wp2_with fail
          go_ret
          exact ⟨rfl, HBE.out.trans (HBI.out.mono HBE.out.size)⟩
end Go.Proofs.YthdeadmnicmgfaaDoor
