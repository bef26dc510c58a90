/- The walks of IDs, Visible (by a closure each) and All. -/
import Derived.Test.YtlelbepfkkaojaaDoorRgH
import Derived.Test.YtlelbepfkkaojaaDoorIdC
import Derived.Laws.MakeOwn
namespace Go.Proofs.YtlelbepfkkaojaaDoor
open Go.RowKit Go.Shelf Go.Maps Go.Sort
set_option linter.unusedVariables false
set_option linter.unusedSimpArgs false

theorem info_i32 : (Tryd.prog.info? 21).map (fun i => (i.zero, i.size, i.bytes)) = some (some (.int .i32 0), 1, 4) := by kernel_rfl
theorem info_ID : (Tryd.prog.info? 30).map (fun i => (i.zero, i.size, i.bytes)) = some (some (.agg #[.int .i64 0, .int .i64 0]), 2, 16) := by kernel_rfl
/-- Runes as cells. -/
def flatC (l : List Int) : List Value := l.map fun c => .int .i32 c
theorem flatC_len (l : List Int) : (flatC l).length = l.length := by simp [flatC]
/-- The IDs, and the characters, of those that are alive. -/
def visI (rs : List El) : List (Int × Int) := (rs.filter fun x => x.2.2.2).map fun x => (x.1, x.2.1)
def visC (rs : List El) : List Int := (rs.filter fun x => x.2.2.2).map fun x => x.2.2.1
theorem vis_snoc (rs : List El) (k : Nat) (h : k < rs.length) : visI (rs.take (k + 1)) = visI (rs.take k) ++ (if (rs.getD k (0, 0, 0, false)).2.2.2 = true then [((rs.getD k (0, 0, 0, false)).1, (rs.getD k (0, 0, 0, false)).2.1)] else []) ∧ visC (rs.take (k + 1)) = visC (rs.take k) ++ (if (rs.getD k (0, 0, 0, false)).2.2.2 = true then [(rs.getD k (0, 0, 0, false)).2.2.1] else []) ∧ idsOf (rs.take (k + 1)) = idsOf (rs.take k) ++ [((rs.getD k (0, 0, 0, false)).1, (rs.getD k (0, 0, 0, false)).2.1)] := by
  have e : rs.take (k + 1) = rs.take k ++ [rs.getD k (0, 0, 0, false)] := by
    rw [List.take_add_one, List.getElem?_eq_getElem h]
    simp [h]
  rw [e]
  generalize rs.getD k (0, 0, 0, false) = X
  refine ⟨?_, ?_, by simp [idsOf]⟩
  · unfold visI
    rw [List.filter_append, List.map_append]
    congr 1
    cases hb : X.2.2.2 <;> simp [hb]
  · unfold visC
    rw [List.filter_append, List.map_append]
    congr 1
    cases hb : X.2.2.2 <;> simp [hb]
theorem vis_len (rs : List El) : (visI rs).length ≤ rs.length ∧ (visC rs).length ≤ rs.length ∧ (idsOf rs).length = rs.length := by
  refine ⟨?_, ?_, by simp [idsOf]⟩
  · unfold visI; rw [List.length_map]; exact List.length_filter_le _ _
  · unfold visC; rw [List.length_map]; exact List.length_filter_le _ _
theorem encE_cells (p : Int × Int) : ∀ v ∈ encE p, v.oneCell' = true := by
  intro v hv
  simp [encE] at hv
  rcases hv with rfl | rfl <;> rfl

theorem own_laterX {w w' : World} {B n s : Nat} {e : TypeId} {v : Value} {xs : List Value} (h : w.ownsRow B e s v n xs) (hb : Below w.heap.size w w') : w'.ownsRow B e s v n xs := cg_own (Q := fun _ => False) (cg_below hb _) h (fun _ _ q => q)
theorem len_rga (w : World) {P B Q M : Nat} {ve vo vi : Value} {rs : List El} {L : List Bool} {O : List Opn} {D : DataW Value} {top : Int} (h : TxM w P B ve vo vi Q M rs L O D top) :
    Calls Tryd.prog 8 #[.pointer (some ⟨P, 0, none⟩)] w fun e w' => e = .returned (.int .i64 (cnt L : Int)) ∧ w' = w := by
  have HC : Hid (Calls Tryd.prog 23 #[.pointer (some ⟨Q, 0, none⟩)] w fun e w' => e = .returned (.int .i64 (cnt L : Int)) ∧ w' = w) := count_any h.idx
  have c1 := h.cells.2.1
  clear h
  generalize (cnt L : Int) = c at *
  go_enter Tryd.func8, Tryd.ntmps8
  go_wp2_with (first | (go_at_call 23; refine HC.out.mono ?_; rintro e w' ⟨rfl, hw⟩; have hw := hw.symm; subst hw))
  go_ret
  exact ⟨rfl, rfl⟩
theorem top_rga (w : World) {P B Q M : Nat} {ve vo vi : Value} {rs : List El} {L : List Bool} {O : List Opn} {D : DataW Value} {top : Int} (h : TxM w P B ve vo vi Q M rs L O D top) :
    Calls Tryd.prog 14 #[.pointer (some ⟨P, 0, none⟩)] w fun e w' => e = .returned (.int .i64 top) ∧ w' = w := by
  have c1 := h.cells.2.2.2.2.1
  clear h
  go_enter Tryd.func14, Tryd.ntmps14
  go_wp2
  go_ret
  exact ⟨rfl, rfl⟩

/-- What the closure fills: a row of the call's own. -/
def AcI (w0 w : World) (b : Nat) (l : List (Int × Int)) : Prop := ∃ v, w.heap[b]? = some (.cells #[v] 33) ∧ w.ownsRow w0.heap.size 30 2 v l.length (flatE l) ∧ w0.heap.size ≤ b ∧ Below w0.heap.size w0 w
theorem acI_later {w0 w w' : World} {b : Nat} {l : List (Int × Int)} (h : AcI w0 w b l) (hb : Below w.heap.size w w') : AcI w0 w' b l := by
  obtain ⟨v, h1, h2, h3, h4⟩ := h
  exact ⟨v, (hb.block b (Array.getElem?_eq_some_iff.1 h1).1).trans h1, own_laterX h2 hb, h3, h4.trans (hb.mono h4.size)⟩
set_option maxHeartbeats 1000000 in
theorem takeI_rga (w0 w : World) (b : Nat) (l : List (Int × Int)) (x : El) (h : AcI w0 w b l) (hl : l.length ≤ 100000) :
    Calls Tryd.prog 22 #[.agg #[.int .i64 x.1, .int .i64 x.2.1, .int .i32 x.2.2.1, .bool x.2.2.2], .pointer (some ⟨b, 0, none⟩)] w fun e w' => e = .returned (.tuple #[]) ∧ AcI w0 w' b (l ++ [(x.1, x.2.1)]) := by
  obtain ⟨i0, ji, jz0, jz1, jz2⟩ := info_parts info_ID
  have HJ : Hid (Tryd.prog.info? 30 = some i0 ∧ i0.zero = some (.agg #[.int .i64 0, .int .i64 0]) ∧ i0.size = 2 ∧ i0.bytes = 16) := ⟨ji, jz0, jz1, jz2⟩
  obtain ⟨x1, x2, x3, x4⟩ := x
  obtain ⟨v, h1, h2, h3, h4⟩ := h
  obtain ⟨sa, cap, rfl, hcap, _⟩ := own_sl h2
  obtain ⟨W1, hW1⟩ : ∃ W1, W1 = w.alloc (.cells #[.int .i64 x1, .int .i64 x2, .int .i32 x3, .bool x4] 56) := ⟨_, rfl⟩
  have hb1 : Below w.heap.size w W1 := by rw [hW1]; exact (gw_alloc w _).below
  have hN : W1.heap[w.heap.size]? = some (.cells #[.int .i64 x1, .int .i64 x2, .int .i32 x3, .bool x4] 56) := by rw [hW1]; exact heap_alloc_new w _
  have n0 : W1.cell? ⟨w.heap.size, 0, none⟩ = some (.int .i64 x1) := cell_of_row W1 _ 0 _ _ _ hN
  have n1 : W1.cell? ⟨w.heap.size, 1, none⟩ = some (.int .i64 x2) := cell_of_row W1 _ 1 _ _ _ hN
  have n2 : W1.cell? ⟨w.heap.size, 2, none⟩ = some (.int .i32 x3) := cell_of_row W1 _ 2 _ _ _ hN
  have hbb : W1.heap[b]? = some (.cells #[.slice sa l.length cap] 33) := (hb1.block b (Array.getElem?_eq_some_iff.1 h1).1).trans h1
  have c0 : W1.cell? ⟨b, 0, none⟩ = some (.slice sa l.length cap) := cell_of_row W1 _ 0 _ _ _ hbb
  have hsz := h4.size
  have HOW : Hid (∀ V, Below W1.heap.size W1 V → V.ownsRow w0.heap.size 30 2 (.slice sa l.length cap) l.length (flatE l)) := fun V hV => own_laterX h2 (hb1.trans (hV.mono hb1.size))
  have HL : Hid (l.length ≤ 100000) := hl
  have HBS : Hid (w0.heap.size ≤ W1.heap.size) := Nat.le_trans hsz hb1.size
  have HFIN : Hid (∀ (V w' : World) (g c : Nat), Below W1.heap.size W1 V → w'.ownsRow w0.heap.size 30 2 (.slice (some ⟨g, 0, none⟩) (l.length + 1) c) (l.length + 1) (flatE l ++ [.int .i64 x1, .int .i64 x2]) → V.grownBy w' (Value.slice sa l.length cap).ownBlock → ((Value.slice sa l.length cap).ownBlock = some g ∨ g = V.heap.size) →
      w'.cell? ⟨b, 0, none⟩ = some (.slice sa l.length cap) ∧ w'.frozen? ⟨b, 0, none⟩ = false ∧ AcI w0 (w'.setCell ⟨b, 0, none⟩ (.slice (some ⟨g, 0, none⟩) (l.length + 1) c)) b (l ++ [(x1, x2)])) := by
    intro V w' g c hV q1 q2 q3
    have hVb := (hV.block b (Array.getElem?_eq_some_iff.1 hbb).1).trans hbb
    have hne : (Value.slice sa l.length cap).ownBlock ≠ some b := fun e => by
      obtain ⟨_, cur, hc⟩ := own_cur (HOW.out V hV) e
      exact ne_tyX hc hVb (by decide) rfl
    have hwb := (q2.block b (Array.getElem?_eq_some_iff.1 hVb).1 (fun e => hne e.symm)).trans hVb
    have hgb : g ≠ b := fun e => by
      subst e
      obtain ⟨_, cur, hc⟩ := own_cur q1 rfl
      exact ne_tyX hc hwb (by decide) rfl
    refine ⟨cell_of_row w' b 0 _ _ _ hwb, Lib.frozen_of_heap hwb _, _, by rw [heap_setX w' b 0 _ _ _ _ hwb]; rfl, ?_, h3, ?_⟩
    · have q4 := cg_own (cg_set w' b 0 (.slice (some ⟨g, 0, none⟩) (l.length + 1) c)) q1 (fun k hk e => hgb (by rw [← e]; exact Option.some.inj hk))
      rw [List.length_append]
      rw [show flatE (l ++ [(x1, x2)]) = flatE l ++ [.int .i64 x1, .int .i64 x2] by simp [flatE, encE]]
      exact q4
    · have hall := h4.trans ((hb1.trans (hV.mono hb1.size)).mono hsz)
      have h5 := hall.grown q2 (Nat.le_trans hall.size (Nat.le_refl _)) (fun k e => (own_cur (HOW.out V hV) e).1)
      exact h5.setCell (p := ⟨b, 0, none⟩) h3 _
  clear hN hbb h1 h2 h3 h4 hb1 hsz hcap ji jz0 jz1 jz2
  have hll : l.length ≤ 100000 := hl
  clear hl
  generalize l.length = n at *
  generalize flatE l = fl at *
  obtain ⟨N, hNe⟩ : ∃ N, N = w.heap.size := ⟨_, rfl⟩
  rw [← hNe] at n0 n1 n2
  go_enter Tryd.func22, Tryd.ntmps22
  go_upto_region 1 with fail
  rw [← hNe, ← hW1]
  clear hNe hW1
  go_wp2_with (at_builtin; refine wpList_append_lies _ rfl _ _ 33 rfl w0.heap.size 30 i0 _ 2 16 Tryd.underlying33 HJ.out.1 HJ.out.2.1 HJ.out.2.2.1 HJ.out.2.2.2 rfl (by decide) (.slice sa n cap) n fl rfl (HOW.out _ ((Below.refl _ W1).alloc (Nat.le_refl _) _)) ⟨W1.heap.size, 0, none⟩ 1 1 ([.int .i64 x1, .int .i64 x2]) rfl rfl (World.news_of_block (cs := #[.int .i64 x1, .int .i64 x2]) (t := 30) (fr := (0, 0)) (heap_alloc_new W1 _)) (by simp [Value.oneCell']) (by decide) (by have := HL.out; unfold maxLen; omega) (by have := HL.out; omega) (by have := HBS.out; simp; omega) _ rfl (fun g c w' q1 q2 q3 _ => ?_); have z := HFIN.out _ w' g c ((Below.refl _ W1).alloc (Nat.le_refl _) _) q1 q2 q3; have z1 := z.1; have z2 := z.2.1; have HZ : Hid (AcI w0 (w'.setCell ⟨b, 0, none⟩ (.slice (some ⟨g, 0, none⟩) (n + 1) c)) b _) := z.2.2; clear z q1 q2 q3)
  go_end0
  exact ⟨rfl, HZ.out⟩
set_option maxHeartbeats 2000000 in
theorem eachI_rga {P B Q M : Nat} {ve vo vi : Value} {O : List Opn} (hl : O.length ≤ 99000) (w0 W : World) (b : Nat) (h : TxAt w0 P B ve vo vi Q M O) (hA : AcI w0 W b []) :
    Calls Tryd.prog 21 #[.pointer (some ⟨P, 0, none⟩), .func (.func 22) #[] #[.pointer (some ⟨b, 0, none⟩)]] W fun e w' => e = .returned (.tuple #[]) ∧ AcI w0 w' b (visI (els O)) := by
  have hN : (els O).length ≤ 99000 := by rw [els_len]; exact Nat.le_trans (seqE_len O) hl
  obtain ⟨sa, cap, rfl, hcap, _⟩ := own_sl h.elm
  have HT : Hid (∀ w', Below w0.heap.size w0 w' → w'.cell? ⟨P, 0, none⟩ = some (.slice sa (els O).length cap) ∧ ∀ k, k < (els O).length → ∃ g, sa = some ⟨g, 0, none⟩ ∧ w'.cell? ⟨g, k * 4, none⟩ = some (.int .i64 ((els O).getD k (0, 0, 0, false)).1) ∧ w'.cell? ⟨g, k * 4 + 1, none⟩ = some (.int .i64 ((els O).getD k (0, 0, 0, false)).2.1) ∧ w'.cell? ⟨g, k * 4 + 2, none⟩ = some (.int .i32 ((els O).getD k (0, 0, 0, false)).2.2.1) ∧ w'.cell? ⟨g, k * 4 + 3, none⟩ = some (.bool ((els O).getD k (0, 0, 0, false)).2.2.2)) := by
    intro w' hb
    have h' := h.later hb
    refine ⟨h'.cells.1, fun k hk => ?_⟩
    obtain ⟨g, cap', hv, _, _, c0, c1, c2, c3, _⟩ := own_el h'.elm k hk
    cases hv
    exact ⟨g, rfl, c0, c1, c2, c3⟩
  have HBL : Hid (∀ w l, AcI w0 w b l → Below w0.heap.size w0 w) := fun w l h => by obtain ⟨_, _, _, _, q⟩ := h; exact q
  have HST : Hid (∀ k, k < (els O).length → visI ((els O).take (k + 1)) = visI ((els O).take k) ++ (if ((els O).getD k (0, 0, 0, false)).2.2.2 = true then [(((els O).getD k (0, 0, 0, false)).1, ((els O).getD k (0, 0, 0, false)).2.1)] else [])) := fun k hk => (vis_snoc (els O) k hk).1
  have HLE : Hid (∀ k, (visI ((els O).take k)).length ≤ 100000) := fun k => by
    have h1 := (vis_len ((els O).take k)).1
    rw [List.length_take] at h1
    omega
  have HAL : Hid (visI ((els O).take (els O).length) = visI (els O)) := by rw [List.take_length]; trivial
  have HA0 : Hid (AcI w0 W b (visI ((els O).take 0))) := hA
  have hb0 := HBL.out W [] hA
  have c0 := (HT.out W hb0).1
  obtain ⟨N, hNe⟩ : ∃ N, N = (els O).length := ⟨_, rfl⟩
  rw [← hNe] at HT HST HAL c0 hN hcap
  generalize els O = E at *
  clear h hA hNe hl hb0
  go_enter Tryd.func21, Tryd.ntmps21
  go_wp2
  go_loopw [11] (fun x11 wr => ∃ k : Nat, x11 = .int .i64 (k : Int) ∧ k ≤ N ∧ AcI w0 wr b (visI (E.take k))) (fun x11 _ => N - (RowKit.intOf x11).toNat)
  case atStart => exact ⟨0, rfl, by omega, HA0.out⟩
  case round =>
    obtain ⟨k, hx, hk, ha⟩ := hrel
    subst hx
    have HA : Hid (AcI w0 wr b (visI (E.take k))) := ha
    clear ha c0
    by_cases hlt : k < N
    · obtain ⟨g, hsa, d0, d1, d2, d3⟩ := (HT.out wr (HBL.out wr _ HA.out)).2 k hlt
      subst hsa
      have hst := HST.out k hlt
      have HE1 : Hid (∀ o : Obj, Calls Tryd.prog 22 #[.agg #[.int .i64 (E.getD k (0, 0, 0, false)).1, .int .i64 (E.getD k (0, 0, 0, false)).2.1, .int .i32 (E.getD k (0, 0, 0, false)).2.2.1, .bool (E.getD k (0, 0, 0, false)).2.2.2], .pointer (some ⟨b, 0, none⟩)] (wr.alloc o) fun e w' => e = .returned (.tuple #[]) ∧ AcI w0 w' b (visI (E.take k) ++ [((E.getD k (0, 0, 0, false)).1, (E.getD k (0, 0, 0, false)).2.1)])) :=
        fun o => takeI_rga w0 (wr.alloc o) b _ (E.getD k (0, 0, 0, false)) (acI_later HA.out (gw_alloc wr o).below) (HLE.out k)
      generalize E.getD k (0, 0, 0, false) = X at d0 d1 d2 d3 hst HE1
      obtain ⟨x1, x2, x3, x4⟩ := X
      cases x4
      · have HN2 : Hid (∀ o, AcI w0 (wr.alloc o) b (visI (E.take (k + 1)))) := fun o => by
          rw [hst, if_neg (by simp), List.append_nil]
          exact acI_later HA.out (gw_alloc wr o).below
        clear hst HE1 HT HST
        go_wp2
        go_roundw
        case rel => exact ⟨k + 1, (by go_num), (by omega), HN2.out _⟩
        case measure => simp [RowKit.intOf]; omega
      · have HX : Hid (visI (E.take (k + 1)) = visI (E.take k) ++ [(x1, x2)]) := by rw [hst, if_pos rfl]; trivial
        clear hst HT HST
        go_wp2_with (first | (go_at_call 22; refine (HE1.out _).mono ?_; rintro e w2 ⟨rfl, hz⟩; have HZ : Hid (AcI w0 w2 b (visI (E.take (k + 1)))) := (by rw [HX.out]; exact hz); clear hz))
        go_roundw
        case rel => exact ⟨k + 1, (by go_num), (by omega), HZ.out⟩
        case measure => simp [RowKit.intOf]; omega
    · obtain rfl : k = N := by omega
      have HF : Hid (AcI w0 wr b (visI E)) := by rw [← HAL.out]; exact HA.out
      clear HT HST HAL HA HLE
      go_wp2
      go_end0
      exact ⟨rfl, HF.out⟩
set_option maxHeartbeats 1000000 in
theorem ids_rga {P B Q M : Nat} {ve vo vi : Value} {O : List Opn} (hl : O.length ≤ 99000) (w : World) (h : TxAt w P B ve vo vi Q M O) :
    Calls Tryd.prog 7 #[.pointer (some ⟨P, 0, none⟩)] w fun e w' => ∃ v, e = .returned v ∧ w'.ownsRow w.heap.size 30 2 v (visI (els O)).length (flatE (visI (els O))) ∧ Below w.heap.size w w' := by
  obtain ⟨i0, ji, jz0, jz1, jz2⟩ := info_parts info_ID
  have hN : (els O).length ≤ 99000 := by rw [els_len]; exact Nat.le_trans (seqE_len O) hl
  have hcnt : cnt (marks O) ≤ 99000 := by
    have := cnt_le (marks O)
    rw [marks_len, ← els_len] at this
    omega
  have HLN : Hid (Calls Tryd.prog 8 #[.pointer (some ⟨P, 0, none⟩)] w fun e w' => e = .returned (.int .i64 (cnt (marks O) : Int)) ∧ w' = w) := len_rga w h
  obtain ⟨wm, hrun, hown, hgrow⟩ := run_makeSlice_owned (P := Tryd.prog) (w := w) w.heap.size 33 30 i0 _ 2 Tryd.underlying33 ji jz0 jz1 .i64 .i64 (cnt (marks O)) (by omega) (by rw [jz2]; omega) (by unfold maxLen; omega) (Nat.le_refl _)
  have hbm : Below w.heap.size w wm := (Below.refl _ w).grown hgrow (Nat.le_refl _) (fun k e => by cases e)
  obtain ⟨W1, hW1⟩ : ∃ W1, W1 = wm.alloc (.cells #[.slice (some ⟨w.heap.size, 0, none⟩) 0 (cnt (marks O))] 33) := ⟨_, rfl⟩
  have HEA : Hid (Calls Tryd.prog 21 #[.pointer (some ⟨P, 0, none⟩), .func (.func 22) #[] #[.pointer (some ⟨wm.heap.size, 0, none⟩)]] W1 fun e w' => e = .returned (.tuple #[]) ∧ AcI w w' wm.heap.size (visI (els O))) := by
    refine eachI_rga hl w W1 wm.heap.size h ⟨.slice (some ⟨w.heap.size, 0, none⟩) 0 (cnt (marks O)), ?_, ?_, hbm.size, ?_⟩
    · rw [hW1]; exact heap_alloc_new wm _
    · rw [hW1]; exact own_alloc' hown _
    · rw [hW1]; exact hbm.trans ((gw_alloc wm _).below.mono hbm.size)
  have hmf : ∀ (fn : Fn) (first cp : Array Value) (w : World), (Instr.makeFunc fn first cp).run Tryd.prog w = .ok (.func fn first cp) w := fun _ _ _ _ => rfl
  have HFIN : Hid (∀ w2, AcI w w2 wm.heap.size (visI (els O)) → ∃ a c, w2.cell? ⟨wm.heap.size, 0, none⟩ = some (.slice a (visI (els O)).length c) ∧ w2.ownsRow w.heap.size 30 2 (.slice a (visI (els O)).length c) (visI (els O)).length (flatE (visI (els O))) ∧ Below w.heap.size w w2) := by
    rintro w2 ⟨v, q1, q2, q3, q4⟩
    obtain ⟨a, c, rfl, _, _⟩ := own_sl q2
    exact ⟨a, c, cell_of_row w2 _ 0 _ _ _ q1, q2, q4⟩
  obtain ⟨Nm, hNm⟩ : ∃ Nm, Nm = wm.heap.size := ⟨_, rfl⟩
  rw [← hNm] at HEA HFIN
  clear hown hgrow hbm ji jz0 jz1 jz2 h hN hl
  generalize visI (els O) = FE at *
  generalize cnt (marks O) = cm at *
  go_enter Tryd.func7, Tryd.ntmps7
  go_upto_region 2 with (first | (go_at_call 8; refine HLN.out.mono ?_; rintro e w' ⟨rfl, hw⟩; have hw := hw.symm; subst hw))
  rw [← hNm, ← hW1]
  clear hW1 hNm hrun
  go_upto_region 3 with (first | (go_at_call 21; refine HEA.out.mono ?_; rintro e w2 ⟨rfl, hz⟩; obtain ⟨a, c, z1, z2, z3⟩ := HFIN.out w2 hz; have HZ : Hid (w2.ownsRow w.heap.size 30 2 (.slice a FE.length c) FE.length (flatE FE) ∧ Below w.heap.size w w2) := ⟨z2, z3⟩; clear hz z2 z3))
  go_wp2
  go_ret
  exact ⟨_, rfl, HZ.out.1, HZ.out.2⟩

/-- What the closure fills: a row of the call's own. -/
def AcV (w0 w : World) (b : Nat) (l : List (Int)) : Prop := ∃ v, w.heap[b]? = some (.cells #[v] 36) ∧ w.ownsRow w0.heap.size 21 1 v l.length (flatC l) ∧ w0.heap.size ≤ b ∧ Below w0.heap.size w0 w
theorem acV_later {w0 w w' : World} {b : Nat} {l : List (Int)} (h : AcV w0 w b l) (hb : Below w.heap.size w w') : AcV w0 w' b l := by
  obtain ⟨v, h1, h2, h3, h4⟩ := h
  exact ⟨v, (hb.block b (Array.getElem?_eq_some_iff.1 h1).1).trans h1, own_laterX h2 hb, h3, h4.trans (hb.mono h4.size)⟩
set_option maxHeartbeats 1000000 in
theorem takeV_rga (w0 w : World) (b : Nat) (l : List (Int)) (x : El) (h : AcV w0 w b l) (hl : l.length ≤ 100000) :
    Calls Tryd.prog 24 #[.agg #[.int .i64 x.1, .int .i64 x.2.1, .int .i32 x.2.2.1, .bool x.2.2.2], .pointer (some ⟨b, 0, none⟩)] w fun e w' => e = .returned (.tuple #[]) ∧ AcV w0 w' b (l ++ [x.2.2.1]) := by
  obtain ⟨i0, ji, jz0, jz1, jz2⟩ := info_parts info_i32
  have HJ : Hid (Tryd.prog.info? 21 = some i0 ∧ i0.zero = some (.int .i32 0) ∧ i0.size = 1 ∧ i0.bytes = 4) := ⟨ji, jz0, jz1, jz2⟩
  obtain ⟨x1, x2, x3, x4⟩ := x
  obtain ⟨v, h1, h2, h3, h4⟩ := h
  obtain ⟨sa, cap, rfl, hcap, _⟩ := own_sl h2
  obtain ⟨W1, hW1⟩ : ∃ W1, W1 = w.alloc (.cells #[.int .i64 x1, .int .i64 x2, .int .i32 x3, .bool x4] 56) := ⟨_, rfl⟩
  have hb1 : Below w.heap.size w W1 := by rw [hW1]; exact (gw_alloc w _).below
  have hN : W1.heap[w.heap.size]? = some (.cells #[.int .i64 x1, .int .i64 x2, .int .i32 x3, .bool x4] 56) := by rw [hW1]; exact heap_alloc_new w _
  have n0 : W1.cell? ⟨w.heap.size, 0, none⟩ = some (.int .i64 x1) := cell_of_row W1 _ 0 _ _ _ hN
  have n1 : W1.cell? ⟨w.heap.size, 1, none⟩ = some (.int .i64 x2) := cell_of_row W1 _ 1 _ _ _ hN
  have n2 : W1.cell? ⟨w.heap.size, 2, none⟩ = some (.int .i32 x3) := cell_of_row W1 _ 2 _ _ _ hN
  have hbb : W1.heap[b]? = some (.cells #[.slice sa l.length cap] 36) := (hb1.block b (Array.getElem?_eq_some_iff.1 h1).1).trans h1
  have c0 : W1.cell? ⟨b, 0, none⟩ = some (.slice sa l.length cap) := cell_of_row W1 _ 0 _ _ _ hbb
  have hsz := h4.size
  have HOW : Hid (∀ V, Below W1.heap.size W1 V → V.ownsRow w0.heap.size 21 1 (.slice sa l.length cap) l.length (flatC l)) := fun V hV => own_laterX h2 (hb1.trans (hV.mono hb1.size))
  have HL : Hid (l.length ≤ 100000) := hl
  have HBS : Hid (w0.heap.size ≤ W1.heap.size) := Nat.le_trans hsz hb1.size
  have HFIN : Hid (∀ (V w' : World) (g c : Nat), Below W1.heap.size W1 V → w'.ownsRow w0.heap.size 21 1 (.slice (some ⟨g, 0, none⟩) (l.length + 1) c) (l.length + 1) (flatC l ++ [.int .i32 x3]) → V.grownBy w' (Value.slice sa l.length cap).ownBlock → ((Value.slice sa l.length cap).ownBlock = some g ∨ g = V.heap.size) →
      w'.cell? ⟨b, 0, none⟩ = some (.slice sa l.length cap) ∧ w'.frozen? ⟨b, 0, none⟩ = false ∧ AcV w0 (w'.setCell ⟨b, 0, none⟩ (.slice (some ⟨g, 0, none⟩) (l.length + 1) c)) b (l ++ [x3])) := by
    intro V w' g c hV q1 q2 q3
    have hVb := (hV.block b (Array.getElem?_eq_some_iff.1 hbb).1).trans hbb
    have hne : (Value.slice sa l.length cap).ownBlock ≠ some b := fun e => by
      obtain ⟨_, cur, hc⟩ := own_cur (HOW.out V hV) e
      exact ne_tyX hc hVb (by decide) rfl
    have hwb := (q2.block b (Array.getElem?_eq_some_iff.1 hVb).1 (fun e => hne e.symm)).trans hVb
    have hgb : g ≠ b := fun e => by
      subst e
      obtain ⟨_, cur, hc⟩ := own_cur q1 rfl
      exact ne_tyX hc hwb (by decide) rfl
    refine ⟨cell_of_row w' b 0 _ _ _ hwb, Lib.frozen_of_heap hwb _, _, by rw [heap_setX w' b 0 _ _ _ _ hwb]; rfl, ?_, h3, ?_⟩
    · have q4 := cg_own (cg_set w' b 0 (.slice (some ⟨g, 0, none⟩) (l.length + 1) c)) q1 (fun k hk e => hgb (by rw [← e]; exact Option.some.inj hk))
      rw [List.length_append]
      rw [show flatC (l ++ [x3]) = flatC l ++ [.int .i32 x3] by simp [flatC]]
      exact q4
    · have hall := h4.trans ((hb1.trans (hV.mono hb1.size)).mono hsz)
      have h5 := hall.grown q2 (Nat.le_trans hall.size (Nat.le_refl _)) (fun k e => (own_cur (HOW.out V hV) e).1)
      exact h5.setCell (p := ⟨b, 0, none⟩) h3 _
  clear hN hbb h1 h2 h3 h4 hb1 hsz hcap ji jz0 jz1 jz2
  have hll : l.length ≤ 100000 := hl
  clear hl
  generalize l.length = n at *
  generalize flatC l = fl at *
  obtain ⟨N, hNe⟩ : ∃ N, N = w.heap.size := ⟨_, rfl⟩
  rw [← hNe] at n0 n1 n2
  go_enter Tryd.func24, Tryd.ntmps24
  go_upto_region 1 with fail
  rw [← hNe, ← hW1]
  clear hNe hW1
  go_wp2_with (at_builtin; refine wpList_append_lies _ rfl _ _ 36 rfl w0.heap.size 21 i0 _ 1 4 Tryd.underlying36 HJ.out.1 HJ.out.2.1 HJ.out.2.2.1 HJ.out.2.2.2 rfl (by decide) (.slice sa n cap) n fl rfl (HOW.out _ ((Below.refl _ W1).alloc (Nat.le_refl _) _)) ⟨W1.heap.size, 0, none⟩ 1 1 ([.int .i32 x3]) rfl rfl (World.news_of_block (cs := #[.int .i32 x3]) (t := 21) (fr := (0, 0)) (heap_alloc_new W1 _)) (by simp [Value.oneCell']) (by decide) (by have := HL.out; unfold maxLen; omega) (by have := HL.out; omega) (by have := HBS.out; simp; omega) _ rfl (fun g c w' q1 q2 q3 _ => ?_); have z := HFIN.out _ w' g c ((Below.refl _ W1).alloc (Nat.le_refl _) _) q1 q2 q3; have z1 := z.1; have z2 := z.2.1; have HZ : Hid (AcV w0 (w'.setCell ⟨b, 0, none⟩ (.slice (some ⟨g, 0, none⟩) (n + 1) c)) b _) := z.2.2; clear z q1 q2 q3)
  go_end0
  exact ⟨rfl, HZ.out⟩
set_option maxHeartbeats 2000000 in
theorem eachV_rga {P B Q M : Nat} {ve vo vi : Value} {O : List Opn} (hl : O.length ≤ 99000) (w0 W : World) (b : Nat) (h : TxAt w0 P B ve vo vi Q M O) (hA : AcV w0 W b []) :
    Calls Tryd.prog 21 #[.pointer (some ⟨P, 0, none⟩), .func (.func 24) #[] #[.pointer (some ⟨b, 0, none⟩)]] W fun e w' => e = .returned (.tuple #[]) ∧ AcV w0 w' b (visC (els O)) := by
  have hN : (els O).length ≤ 99000 := by rw [els_len]; exact Nat.le_trans (seqE_len O) hl
  obtain ⟨sa, cap, rfl, hcap, _⟩ := own_sl h.elm
  have HT : Hid (∀ w', Below w0.heap.size w0 w' → w'.cell? ⟨P, 0, none⟩ = some (.slice sa (els O).length cap) ∧ ∀ k, k < (els O).length → ∃ g, sa = some ⟨g, 0, none⟩ ∧ w'.cell? ⟨g, k * 4, none⟩ = some (.int .i64 ((els O).getD k (0, 0, 0, false)).1) ∧ w'.cell? ⟨g, k * 4 + 1, none⟩ = some (.int .i64 ((els O).getD k (0, 0, 0, false)).2.1) ∧ w'.cell? ⟨g, k * 4 + 2, none⟩ = some (.int .i32 ((els O).getD k (0, 0, 0, false)).2.2.1) ∧ w'.cell? ⟨g, k * 4 + 3, none⟩ = some (.bool ((els O).getD k (0, 0, 0, false)).2.2.2)) := by
    intro w' hb
    have h' := h.later hb
    refine ⟨h'.cells.1, fun k hk => ?_⟩
    obtain ⟨g, cap', hv, _, _, c0, c1, c2, c3, _⟩ := own_el h'.elm k hk
    cases hv
    exact ⟨g, rfl, c0, c1, c2, c3⟩
  have HBL : Hid (∀ w l, AcV w0 w b l → Below w0.heap.size w0 w) := fun w l h => by obtain ⟨_, _, _, _, q⟩ := h; exact q
  have HST : Hid (∀ k, k < (els O).length → visC ((els O).take (k + 1)) = visC ((els O).take k) ++ (if ((els O).getD k (0, 0, 0, false)).2.2.2 = true then [((els O).getD k (0, 0, 0, false)).2.2.1] else [])) := fun k hk => (vis_snoc (els O) k hk).2.1
  have HLE : Hid (∀ k, (visC ((els O).take k)).length ≤ 100000) := fun k => by
    have h1 := (vis_len ((els O).take k)).2.1
    rw [List.length_take] at h1
    omega
  have HAL : Hid (visC ((els O).take (els O).length) = visC (els O)) := by rw [List.take_length]; trivial
  have HA0 : Hid (AcV w0 W b (visC ((els O).take 0))) := hA
  have hb0 := HBL.out W [] hA
  have c0 := (HT.out W hb0).1
  obtain ⟨N, hNe⟩ : ∃ N, N = (els O).length := ⟨_, rfl⟩
  rw [← hNe] at HT HST HAL c0 hN hcap
  generalize els O = E at *
  clear h hA hNe hl hb0
  go_enter Tryd.func21, Tryd.ntmps21
  go_wp2
  go_loopw [11] (fun x11 wr => ∃ k : Nat, x11 = .int .i64 (k : Int) ∧ k ≤ N ∧ AcV w0 wr b (visC (E.take k))) (fun x11 _ => N - (RowKit.intOf x11).toNat)
  case atStart => exact ⟨0, rfl, by omega, HA0.out⟩
  case round =>
    obtain ⟨k, hx, hk, ha⟩ := hrel
    subst hx
    have HA : Hid (AcV w0 wr b (visC (E.take k))) := ha
    clear ha c0
    by_cases hlt : k < N
    · obtain ⟨g, hsa, d0, d1, d2, d3⟩ := (HT.out wr (HBL.out wr _ HA.out)).2 k hlt
      subst hsa
      have hst := HST.out k hlt
      have HE1 : Hid (∀ o : Obj, Calls Tryd.prog 24 #[.agg #[.int .i64 (E.getD k (0, 0, 0, false)).1, .int .i64 (E.getD k (0, 0, 0, false)).2.1, .int .i32 (E.getD k (0, 0, 0, false)).2.2.1, .bool (E.getD k (0, 0, 0, false)).2.2.2], .pointer (some ⟨b, 0, none⟩)] (wr.alloc o) fun e w' => e = .returned (.tuple #[]) ∧ AcV w0 w' b (visC (E.take k) ++ [(E.getD k (0, 0, 0, false)).2.2.1])) :=
        fun o => takeV_rga w0 (wr.alloc o) b _ (E.getD k (0, 0, 0, false)) (acV_later HA.out (gw_alloc wr o).below) (HLE.out k)
      generalize E.getD k (0, 0, 0, false) = X at d0 d1 d2 d3 hst HE1
      obtain ⟨x1, x2, x3, x4⟩ := X
      cases x4
      · have HN2 : Hid (∀ o, AcV w0 (wr.alloc o) b (visC (E.take (k + 1)))) := fun o => by
          rw [hst, if_neg (by simp), List.append_nil]
          exact acV_later HA.out (gw_alloc wr o).below
        clear hst HE1 HT HST
        go_wp2
        go_roundw
        case rel => exact ⟨k + 1, (by go_num), (by omega), HN2.out _⟩
        case measure => simp [RowKit.intOf]; omega
      · have HX : Hid (visC (E.take (k + 1)) = visC (E.take k) ++ [x3]) := by rw [hst, if_pos rfl]; trivial
        clear hst HT HST
        go_wp2_with (first | (go_at_call 24; refine (HE1.out _).mono ?_; rintro e w2 ⟨rfl, hz⟩; have HZ : Hid (AcV w0 w2 b (visC (E.take (k + 1)))) := (by rw [HX.out]; exact hz); clear hz))
        go_roundw
        case rel => exact ⟨k + 1, (by go_num), (by omega), HZ.out⟩
        case measure => simp [RowKit.intOf]; omega
    · obtain rfl : k = N := by omega
      have HF : Hid (AcV w0 wr b (visC E)) := by rw [← HAL.out]; exact HA.out
      clear HT HST HAL HA HLE
      go_wp2
      go_end0
      exact ⟨rfl, HF.out⟩
set_option maxHeartbeats 1000000 in
theorem visible_rga {P B Q M : Nat} {ve vo vi : Value} {O : List Opn} (hl : O.length ≤ 99000) (w : World) (h : TxAt w P B ve vo vi Q M O) :
    Calls Tryd.prog 9 #[.pointer (some ⟨P, 0, none⟩)] w fun e w' => ∃ v, e = .returned v ∧ w'.ownsRow w.heap.size 21 1 v (visC (els O)).length (flatC (visC (els O))) ∧ Below w.heap.size w w' := by
  obtain ⟨i0, ji, jz0, jz1, jz2⟩ := info_parts info_i32
  have hN : (els O).length ≤ 99000 := by rw [els_len]; exact Nat.le_trans (seqE_len O) hl
  have hcnt : cnt (marks O) ≤ 99000 := by
    have := cnt_le (marks O)
    rw [marks_len, ← els_len] at this
    omega
  have HLN : Hid (Calls Tryd.prog 8 #[.pointer (some ⟨P, 0, none⟩)] w fun e w' => e = .returned (.int .i64 (cnt (marks O) : Int)) ∧ w' = w) := len_rga w h
  obtain ⟨wm, hrun, hown, hgrow⟩ := run_makeSlice_owned (P := Tryd.prog) (w := w) w.heap.size 36 21 i0 _ 1 Tryd.underlying36 ji jz0 jz1 .i64 .i64 (cnt (marks O)) (by omega) (by rw [jz2]; omega) (by unfold maxLen; omega) (Nat.le_refl _)
  have hbm : Below w.heap.size w wm := (Below.refl _ w).grown hgrow (Nat.le_refl _) (fun k e => by cases e)
  obtain ⟨W1, hW1⟩ : ∃ W1, W1 = wm.alloc (.cells #[.slice (some ⟨w.heap.size, 0, none⟩) 0 (cnt (marks O))] 36) := ⟨_, rfl⟩
  have HEA : Hid (Calls Tryd.prog 21 #[.pointer (some ⟨P, 0, none⟩), .func (.func 24) #[] #[.pointer (some ⟨wm.heap.size, 0, none⟩)]] W1 fun e w' => e = .returned (.tuple #[]) ∧ AcV w w' wm.heap.size (visC (els O))) := by
    refine eachV_rga hl w W1 wm.heap.size h ⟨.slice (some ⟨w.heap.size, 0, none⟩) 0 (cnt (marks O)), ?_, ?_, hbm.size, ?_⟩
    · rw [hW1]; exact heap_alloc_new wm _
    · rw [hW1]; exact own_alloc' hown _
    · rw [hW1]; exact hbm.trans ((gw_alloc wm _).below.mono hbm.size)
  have hmf : ∀ (fn : Fn) (first cp : Array Value) (w : World), (Instr.makeFunc fn first cp).run Tryd.prog w = .ok (.func fn first cp) w := fun _ _ _ _ => rfl
  have HFIN : Hid (∀ w2, AcV w w2 wm.heap.size (visC (els O)) → ∃ a c, w2.cell? ⟨wm.heap.size, 0, none⟩ = some (.slice a (visC (els O)).length c) ∧ w2.ownsRow w.heap.size 21 1 (.slice a (visC (els O)).length c) (visC (els O)).length (flatC (visC (els O))) ∧ Below w.heap.size w w2) := by
    rintro w2 ⟨v, q1, q2, q3, q4⟩
    obtain ⟨a, c, rfl, _, _⟩ := own_sl q2
    exact ⟨a, c, cell_of_row w2 _ 0 _ _ _ q1, q2, q4⟩
  obtain ⟨Nm, hNm⟩ : ∃ Nm, Nm = wm.heap.size := ⟨_, rfl⟩
  rw [← hNm] at HEA HFIN
  clear hown hgrow hbm ji jz0 jz1 jz2 h hN hl
  generalize visC (els O) = FE at *
  generalize cnt (marks O) = cm at *
  go_enter Tryd.func9, Tryd.ntmps9
  go_upto_region 2 with (first | (go_at_call 8; refine HLN.out.mono ?_; rintro e w' ⟨rfl, hw⟩; have hw := hw.symm; subst hw))
  rw [← hNm, ← hW1]
  clear hW1 hNm hrun
  go_upto_region 3 with (first | (go_at_call 21; refine HEA.out.mono ?_; rintro e w2 ⟨rfl, hz⟩; obtain ⟨a, c, z1, z2, z3⟩ := HFIN.out w2 hz; have HZ : Hid (w2.ownsRow w.heap.size 21 1 (.slice a FE.length c) FE.length (flatC FE) ∧ Below w.heap.size w w2) := ⟨z2, z3⟩; clear hz z2 z3))
  go_wp2
  go_ret
  exact ⟨_, rfl, HZ.out.1, HZ.out.2⟩
end Go.Proofs.YtlelbepfkkaojaaDoor
