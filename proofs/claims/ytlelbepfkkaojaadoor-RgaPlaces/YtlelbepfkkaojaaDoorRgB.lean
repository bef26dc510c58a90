/- The walks of a text's functions: New, find (with the search from the end), Len, Top, Alive, Has. -/
import Derived.Test.YtlelbepfkkaojaaDoorRgA
import Derived.Laws.EntriesVeiled
import Derived.BigQuiet
import Derived.Shelf.SlSortCmp.QuietGrown
namespace Go.Proofs.YtlelbepfkkaojaaDoor
open Go.RowKit Go.Shelf Go.Maps Go.Sort
set_option linter.unusedVariables false
set_option linter.unusedSimpArgs false

theorem eql_ids (c a d b : Int) (z : Bool) (hz : z = decide ((c, a) = (d, b))) (W : World) : (binOp .eql 30 (.agg #[.int .i64 c, .int .i64 a]) (.agg #[.int .i64 d, .int .i64 b])).run Tryd.prog W = .ok (.bool z) W := by
  subst hz
  by_cases h1 : c = d <;> by_cases h2 : a = b <;> (simp only [Prod.mk.injEq, h1, h2, and_true, true_and, and_false, false_and, decide_true, decide_false]; go_simp)
theorem find1_rga (x : El) (i : Int × Int) (B : Nat) (W : World) (h : W.cell? ⟨B, 0, none⟩ = some (.int .i64 i.1) ∧ W.cell? ⟨B, 1, none⟩ = some (.int .i64 i.2)) :
    Calls Tryd.prog 33 #[.agg #[.int .i64 x.1, .int .i64 x.2.1, .int .i32 x.2.2.1, .bool x.2.2.2], .pointer (some ⟨B, 0, none⟩)] W fun e w' => e = .returned (.bool (decide ((x.1, x.2.1) = i))) ∧ Gw W w' := by
  obtain ⟨i1, i2⟩ := i
  obtain ⟨x1, x2, x3, x4⟩ := x
  obtain ⟨h0, h1⟩ := h
  have HG : Hid (∀ o : Obj, Gw W (W.alloc o)) := fun o => gw_alloc W o
  have hB : B < W.heap.size := World.block_lt_of_cell? W _ h0
  obtain ⟨W1, hW1⟩ : ∃ W1, W1 = W.alloc (.cells #[.int .i64 x1, .int .i64 x2, .int .i32 x3, .bool x4] 56) := ⟨_, rfl⟩
  have hb1 : Below W.heap.size W W1 := by rw [hW1]; exact (gw_alloc W _).below
  have k0 : W1.cell? ⟨B, 0, none⟩ = some (.int .i64 i1) := hb1.cell (World.block_lt_of_cell? W _ h0) ▸ h0
  have k1 : W1.cell? ⟨B, 1, none⟩ = some (.int .i64 i2) := hb1.cell (World.block_lt_of_cell? W _ h1) ▸ h1
  have hN : W1.heap[W.heap.size]? = some (.cells #[.int .i64 x1, .int .i64 x2, .int .i32 x3, .bool x4] 56) := by rw [hW1]; exact heap_alloc_new W _
  have n0 : W1.cell? ⟨W.heap.size, 0, none⟩ = some (.int .i64 x1) := cell_of_row W1 _ 0 _ _ _ hN
  have n1 : W1.cell? ⟨W.heap.size, 1, none⟩ = some (.int .i64 x2) := cell_of_row W1 _ 1 _ _ _ hN
  have HG1 : Hid (Gw W W1) := by rw [hW1]; exact gw_alloc W _
  obtain ⟨z, hz⟩ : ∃ z, z = decide ((x1, x2) = (i1, i2)) := ⟨_, rfl⟩
  have HQ := eql_ids x1 x2 i1 i2 z hz
  show Calls _ _ _ _ fun e w' => e = .returned (.bool (decide ((x1, x2) = (i1, i2)))) ∧ Gw W w'
  rw [← hz]
  clear hz hb1 hN h0 h1 hB HG
  obtain ⟨N, hN⟩ : ∃ N, N = W.heap.size := ⟨_, rfl⟩
  rw [← hN] at n0 n1
  go_enter Tryd.func33, Tryd.ntmps33
  go_upto_region 1 with fail
  rw [← hN, ← hW1]
  clear hN hW1
  go_wp2
  go_ret
  exact ⟨rfl, HG1.out⟩
theorem new_rga (w : World) : Calls Tryd.prog 5 #[] w fun e w' => ∃ P vi Q M, e = .returned (.pointer (some ⟨P, 0, none⟩)) ∧ TxAt w' P w.heap.size (.slice none 0 0) (.slice none 0 0) vi Q M [] ∧ Below w.heap.size w w' := by
  have HNX : Hid (Calls Tryd.prog 15 #[] w fun e w' => ∃ P, e = .returned (.pointer (some ⟨P, 0, none⟩)) ∧ IxS w w' P []) := s_new (Below.refl _ w)
  have HFIN : Hid (∀ Q w1, IxS w w1 Q [] → ∃ P vi M, P = w1.heap.size + 1 ∧ TxAt ((w1.alloc (.map #[] 0)).alloc (.cells #[.slice none 0 0, .pointer (some ⟨Q, 0, none⟩), .slice none 0 0, .map (some w1.heap.size), .int .i64 0] 49)) P w.heap.size (.slice none 0 0) (.slice none 0 0) vi Q M [] ∧ Below w.heap.size w ((w1.alloc (.map #[] 0)).alloc (.cells #[.slice none 0 0, .pointer (some ⟨Q, 0, none⟩), .slice none 0 0, .map (some w1.heap.size), .int .i64 0] 49))) := by
    rintro Q w1 ⟨vi, h1, h2⟩
    have g1 : Below w1.heap.size w1 (w1.alloc (.map #[] 0)) := (gw_alloc w1 _).below
    have g2 : Below w1.heap.size w1 ((w1.alloc (.map #[] 0)).alloc (.cells #[.slice none 0 0, .pointer (some ⟨Q, 0, none⟩), .slice none 0 0, .map (some w1.heap.size), .int .i64 0] 49)) := ((gw_alloc w1 _).alloc _).below
    have hs := h2.size
    refine ⟨_, vi, w1.heap.size, rfl, ⟨?_, ⟨rfl, .inl ⟨rfl, rfl⟩⟩, ⟨rfl, .inl ⟨rfl, rfl⟩⟩, h1.later g2, ?_, by omega, by omega⟩, h2.trans (g2.mono hs)⟩
    · have := heap_alloc_new (w1.alloc (.map #[] 0)) (.cells #[.slice none 0 0, .pointer (some ⟨Q, 0, none⟩), .slice none 0 0, .map (some w1.heap.size), .int .i64 0] 49)
      have e : (w1.alloc (.map #[] 0)).heap.size = w1.heap.size + 1 := by simp
      rw [e] at this
      exact this
    · exact (World.ownsMap_made w1 Tryd.prog 3 RH).alloc _
  have hmm := @run_makeMap Tryd.prog
  go_enter Tryd.func5, Tryd.ntmps5
  go_wp2_with (first | (go_at_call 15; refine HNX.out.mono ?_; rintro e w1 ⟨Q, rfl, hs⟩; have HS : Hid (IxS w w1 Q []) := hs; clear hs))
  go_ret
  obtain ⟨P, vi, M, hP, h1, h2⟩ := HFIN.out Q w1 HS.out
  subst hP
  exact ⟨_, vi, Q, M, rfl, h1, h2⟩
set_option maxHeartbeats 1000000 in
theorem lookBack_any {P B Q M : Nat} {ve vo vi : Value} {O : List Opn} (hv : Rv O) (hl : O.length ≤ 100000) (i : Int × Int) (b : Nat) (W : World) (h : TxAt W P B ve vo vi Q M O) (hb : W.cell? ⟨b, 0, none⟩ = some (.int .i64 i.1) ∧ W.cell? ⟨b, 1, none⟩ = some (.int .i64 i.2)) :
    Calls Tryd.prog 32 #[.pointer (some ⟨P, 0, none⟩), .func (.func 33) #[] #[.pointer (some ⟨b, 0, none⟩)]] W fun e w' => e = .returned (.int .i64 (fIx O i)) ∧ Gw W w' := by
  have hN : (els O).length ≤ 100000 := by rw [els_len]; exact Nat.le_trans (seqE_len O) hl
  obtain ⟨sa, cap, rfl, hcap, hcm⟩ := own_sl h.elm
  have HT : Hid (∀ w', Gw W w' → w'.cell? ⟨P, 0, none⟩ = some (.slice sa (els O).length cap) ∧ (∀ k, k < (els O).length → ∃ g, sa = some ⟨g, 0, none⟩ ∧ w'.cell? ⟨g, k * 4, none⟩ = some (.int .i64 ((els O).getD k (0, 0, 0, false)).1) ∧ w'.cell? ⟨g, k * 4 + 1, none⟩ = some (.int .i64 ((els O).getD k (0, 0, 0, false)).2.1) ∧ w'.cell? ⟨g, k * 4 + 2, none⟩ = some (.int .i32 ((els O).getD k (0, 0, 0, false)).2.2.1) ∧ w'.cell? ⟨g, k * 4 + 3, none⟩ = some (.bool ((els O).getD k (0, 0, 0, false)).2.2.2)) ∧ (∀ x : El, Calls Tryd.prog 33 #[.agg #[.int .i64 x.1, .int .i64 x.2.1, .int .i32 x.2.2.1, .bool x.2.2.2], .pointer (some ⟨b, 0, none⟩)] w' fun e w2 => e = .returned (.bool (decide ((x.1, x.2.1) = i))) ∧ Gw w' w2)) := by
    intro w' hg
    have h' := h.later hg.below
    refine ⟨h'.cells.1, fun k hk => ?_, fun x => find1_rga x i b w' ⟨?_, ?_⟩⟩
    · obtain ⟨g, cap', hv, _, _, c0, c1, c2, c3, _⟩ := own_el h'.elm k hk
      cases hv
      exact ⟨g, rfl, c0, c1, c2, c3⟩
    · exact hg.below.cell (World.block_lt_of_cell? W _ hb.1) ▸ hb.1
    · exact hg.below.cell (World.block_lt_of_cell? W _ hb.2) ▸ hb.2
  have HAT : Hid (∀ k, k < (els O).length → idAt O k = i → fIx O i = (k : Int)) := fun k hk q => fIx_at O hv i k hk q
  have HNO : Hid ((∀ k, k < (els O).length → idAt O k ≠ i) → fIx O i = -1) := fun q => fIx_no O i q
  have HID : Hid (∀ k, idAt O k = (((els O).getD k (0, 0, 0, false)).1, ((els O).getD k (0, 0, 0, false)).2.1)) := fun k => rfl
  obtain ⟨N, hNe⟩ : ∃ N, N = (els O).length := ⟨_, rfl⟩
  rw [← hNe] at HT HAT HNO hN hcap
  have HG0 : Hid (Gw W W) := Gw.refl W
  have c0 := (HT.out W (Gw.refl W)).1
  generalize fIx O i = R at HAT HNO ⊢
  generalize hE : (fun k => (els O).getD k (0, 0, 0, false)) = E at *
  have HE : Hid (∀ k, (els O).getD k (0, 0, 0, false) = E k) := fun k => by rw [← hE]
  clear h hb hv hl hNe hE
  have hw1 : IntKind.i64.wrap ((N : Int) - 1) = (N : Int) - 1 := by rw [IntKind.wrap_i64]; omega
  go_enter Tryd.func32, Tryd.ntmps32
  go_wp2
  go_loopw [5] (fun x5 wr => ∃ k : Nat, x5 = .int .i64 ((k : Int) - 1) ∧ k ≤ N ∧ (∀ j, k ≤ j → j < N → idAt O j ≠ i) ∧ Gw W wr) (fun x5 _ => (RowKit.intOf x5 + 1).toNat)
  case atStart => exact ⟨N, rfl, Nat.le_refl _, fun j h1 h2 => absurd h2 (by omega), HG0.out⟩
  case round =>
    obtain ⟨k, hx, hk, hno, hg⟩ := hrel
    subst hx
    have HG : Hid (Gw W wr) := hg
    have HN : Hid (∀ j, k ≤ j → j < N → idAt O j ≠ i) := hno
    clear hg hno c0
    cases k with
    | zero =>
      have h01 : (((0 : Nat) : Int) - 1) = -1 := by omega
      rw [h01]
      have HR : Hid (R = -1) := HNO.out fun j hj => HN.out j (by omega) hj
      clear HT HAT HNO HID hk
      go_wp2
      go_ret
      exact ⟨(by rw [HR.out]; rfl), HG.out⟩
    | succ k =>
      have hkk : (((k + 1 : Nat) : Int) - 1) = (k : Int) := by omega
      rw [hkk]
      have hd : decide ((0 : Int) ≤ (k : Int)) = true := by simp
      obtain ⟨q1, q2, q3⟩ := HT.out wr HG.out
      obtain ⟨g, hsa, d0, d1, d2, d3⟩ := q2 k (by omega)
      subst hsa
      rw [HE.out k] at d0 d1 d2 d3
      have HC := q3 (E k)
      have hid := HID.out k
      rw [HE.out k] at hid
      rw [← hid] at HC
      have hw2 : IntKind.i64.wrap ((k : Int) - 1) = (k : Int) - 1 := by rw [IntKind.wrap_i64]; omega
      have hkN : (k : Int) < (N : Int) := by omega
      have hk0 : (0 : Int) ≤ (k : Int) := by omega
      have HK : Hid (k + 1 ≤ N) := hk
      by_cases hf : idAt O k = i
      · have HR : Hid (R = (k : Int)) := HAT.out k (by omega) hf
        rw [decide_eq_true hf] at HC
        have HC2 : Hid (Calls Tryd.prog 33 #[.agg #[.int .i64 (E k).1, .int .i64 (E k).2.1, .int .i32 (E k).2.2.1, .bool (E k).2.2.2], .pointer (some ⟨b, 0, none⟩)] wr fun e w2 => e = .returned (.bool true) ∧ Gw wr w2) := HC
        clear HC hf hid q2 q3 HT HAT HNO HID hk hkk hw1
        go_wp2_with (first | (go_at_call 33; refine HC2.out.mono ?_; rintro e w2 ⟨rfl, hg2⟩; have HG2 : Hid (Gw W w2) := HG.out.trans hg2; clear hg2))
        go_ret
        exact ⟨(by rw [HR.out]; rfl), HG2.out⟩
      · rw [decide_eq_false hf] at HC
        have HC2 : Hid (Calls Tryd.prog 33 #[.agg #[.int .i64 (E k).1, .int .i64 (E k).2.1, .int .i32 (E k).2.2.1, .bool (E k).2.2.2], .pointer (some ⟨b, 0, none⟩)] wr fun e w2 => e = .returned (.bool false) ∧ Gw wr w2) := HC
        have HN2 : Hid (∀ j, k ≤ j → j < N → idAt O j ≠ i) := fun j h1 h2 => by
          rcases Nat.eq_or_lt_of_le h1 with rfl | h1
          · exact hf
          · exact HN.out j h1 h2
        clear HC hf hid q2 q3 HT HAT HNO HID hk hkk hw1 HN
        go_wp2_with (first | (go_at_call 33; refine HC2.out.mono ?_; rintro e w2 ⟨rfl, hg2⟩; have HG2 : Hid (Gw W w2) := HG.out.trans hg2; clear hg2))
        go_roundw
        case rel => exact ⟨k, rfl, (by have := HK.out; omega), HN2.out, HG2.out⟩
        case measure => simp [RowKit.intOf]; try omega
theorem field_id (c a s rc ra ch : Int) (b : Bool) (W : World) : (Instr.field 32 (.agg #[.int .i64 c, .int .i64 a, .int .i64 s, .bool b, .int .i64 rc, .int .i64 ra, .int .i32 ch]) 0).run Tryd.prog W = .ok (.agg #[.int .i64 c, .int .i64 a]) W := by
  have h1 := Tryd.underlying32
  have h2 := Tryd.isAgg30
  have h3 := Tryd.sizeOf30
  simp [Instr.field, run_underlying h1, part, asAgg, h2, h3, Result.andThen]
theorem field_ctr (c a : Int) (W : World) : (Instr.field 30 (.agg #[.int .i64 c, .int .i64 a]) 0).run Tryd.prog W = .ok (.int .i64 c) W := by
  have h1 := Tryd.underlying30
  have h2 := Tryd.isAgg3
  simp [Instr.field, run_underlying h1, part, asAgg, h2, Result.andThen]
theorem field_seq (c a s rc ra ch : Int) (b : Bool) (W : World) : (Instr.field 32 (.agg #[.int .i64 c, .int .i64 a, .int .i64 s, .bool b, .int .i64 rc, .int .i64 ra, .int .i32 ch]) 1).run Tryd.prog W = .ok (.int .i64 s) W := by
  have h1 := Tryd.underlying32
  have h2 := Tryd.isAgg3
  simp [Instr.field, run_underlying h1, part, asAgg, h2, Result.andThen]
theorem find_rga {P B Q M : Nat} {ve vo vi : Value} {O : List Opn} (hv : Rv O) (hl : O.length ≤ 100000) (i : Int × Int) (hi : (Lit.int .i64 i.2).wf = true) (W : World) (h : TxAt W P B ve vo vi Q M O) :
    Calls Tryd.prog 17 #[.pointer (some ⟨P, 0, none⟩), .agg #[.int .i64 i.1, .int .i64 i.2]] W fun e w' => e = .returned (.int .i64 (fIx O i)) ∧ Gw W w' := by
  obtain ⟨i1, i2⟩ := i
  obtain ⟨W1, hW1⟩ : ∃ W1, W1 = W.alloc (.cells #[.int .i64 i1, .int .i64 i2] 30) := ⟨_, rfl⟩
  have hg1 : Gw W W1 := by rw [hW1]; exact gw_alloc W _
  have hN : W1.heap[W.heap.size]? = some (.cells #[.int .i64 i1, .int .i64 i2] 30) := by rw [hW1]; exact heap_alloc_new W _
  obtain ⟨n0, n1⟩ := box2 hN
  have h1 := h.later hg1.below
  have hdr : ∀ q, Gw W (W1.drewN q) := fun q => hg1.trans ⟨q, #[], by rw [grow_empty]⟩
  have HLK : Hid (∀ q, Calls Tryd.prog 32 #[.pointer (some ⟨P, 0, none⟩), .func (.func 33) #[] #[.pointer (some ⟨W.heap.size, 0, none⟩)]] (W1.drewN q) fun e w' => e = .returned (.int .i64 (fIx O (i1, i2))) ∧ Gw W w') := fun q =>
    (lookBack_any hv hl (i1, i2) W.heap.size (W1.drewN q) (h.later (hdr q).below) ⟨n0, n1⟩).mono fun e w' h => ⟨h.1, (hdr q).trans h.2⟩
  have HDR : Hid (∀ q, Gw W (W1.drewN q)) := hdr
  have hlook : ∀ q, (Instr.lookup 46 (.map (some M)) (.int .i64 i2) false).run Tryd.prog (W1.drewN q) = .ok (lastO O i2).val (W1.drewN q) := fun q => TxAt.look (W := W1.drewN q) (h.later (hdr q).below) i2 hi
  have hlook0 : (Instr.lookup 46 (.map (some M)) (.int .i64 i2) false).run Tryd.prog W1 = .ok (lastO O i2).val W1 := TxAt.look h1 i2 hi
  have c3 := h1.cells.2.2.2.1
  have hmf : ∀ (fn : Fn) (first cp : Array Value) (w : World), (Instr.makeFunc fn first cp).run Tryd.prog w = .ok (.func fn first cp) w := fun _ _ _ _ => rfl
  have HZ : Hid ((i1, i2) = ((0 : Int), (0 : Int)) → fIx O (i1, i2) = -1) := fun e => by rw [e]; exact fIx_zero O hv
  have HF : Hid ((lastO O i2).c < i1 → fIx O (i1, i2) = -1) := fun e => fIx_far O hv (i1, i2) e
  have hfd := field_id
  have hfc := field_ctr
  obtain ⟨z, hz⟩ : ∃ z, z = decide ((i1, i2) = ((0 : Int), (0 : Int))) := ⟨_, rfl⟩
  have HQ := eql_ids i1 i2 0 0 z hz
  obtain ⟨L, hL⟩ : ∃ L, L = lastO O i2 := ⟨_, rfl⟩
  rw [← hL] at hlook hlook0 HF
  obtain ⟨lc, la, ls, lins, lrc, lra, lch⟩ := L
  replace HF : Hid (lc < i1 → fIx O (i1, i2) = -1) := HF
  simp only [Opn.val] at hlook hlook0
  generalize fIx O (i1, i2) = R at HLK HZ HF ⊢
  obtain ⟨N, hNe⟩ : ∃ N, N = W.heap.size := ⟨_, rfl⟩
  rw [← hNe] at n0 n1 HLK
  clear hdr hg1 hN h h1 hv hl hL hi
  cases z
  · by_cases hf : lc < i1
    · have HR := HF.out hf
      have hd : decide (lc < i1) = true := decide_eq_true hf
      subst HR
      clear HZ HF HLK hz hf
      go_enter Tryd.func17, Tryd.ntmps17
      go_upto_region 1 with fail
      rw [← hNe, ← hW1]
      clear hNe hW1
      go_quiet (fail)
      go_wp2
      go_ret
      exact ⟨rfl, HDR.out _⟩
    · have hd : decide (lc < i1) = false := decide_eq_false hf
      clear HZ HF hz hf
      go_enter Tryd.func17, Tryd.ntmps17
      go_upto_region 1 with fail
      rw [← hNe, ← hW1]
      clear hNe hW1
      go_quiet (fail)
      go_wp2_with (first | (go_at_call 32; refine (HLK.out _).mono ?_; rintro e w2 ⟨rfl, hg2⟩; have HG2 : Hid (Gw W w2) := hg2; clear hg2))
      go_ret
      exact ⟨rfl, HG2.out⟩
  · have HR := HZ.out (of_decide_eq_true hz.symm)
    subst HR
    clear HZ HF HLK hz
    go_enter Tryd.func17, Tryd.ntmps17
    go_upto_region 1 with fail
    rw [← hNe, ← hW1]
    clear hNe hW1
    go_quiet (fail)
    go_wp2
    go_ret
    exact ⟨rfl, HDR.out _⟩
end Go.Proofs.YtlelbepfkkaojaaDoor
