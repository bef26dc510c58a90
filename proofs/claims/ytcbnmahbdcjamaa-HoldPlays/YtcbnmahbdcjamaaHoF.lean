/- The walk of Ready: of any function of operations. -/
import Derived.Test.YtcbnmahbdcjamaaHoE
import Derived.Laws.ResultCell
namespace Go.Proofs.Ytcbnmahbdcjamaa
open Go.RowKit Go.Sort
set_option linter.unusedVariables false
set_option linter.unusedSimpArgs false

/-- What a function value answers of operations, in all that comes behind a world. -/
def Ask (F : Nat) (cs : Array Value) (P : Opn → Bool) (w : World) : Prop := (∀ (x : Array Value) (W : World), (callFunc F x).run Try.prog W = .ok (.enter F x) W) ∧ ∀ (o : Opn) (W : World), Below w.heap.size w W → Calls Try.prog F (#[o.val] ++ cs) W fun e w' => e = .returned (.bool (P o)) ∧ Below W.heap.size W w'
theorem Ask.later {F : Nat} {cs : Array Value} {P : Opn → Bool} {w w' : World} (h : Ask F cs P w) (hb : Below w.heap.size w w') : Ask F cs P w' := ⟨h.1, fun o W hW => h.2 o W (hb.trans (hW.mono hb.size))⟩
theorem enter_of {F : Nat} {fn : Func} (hf : Try.prog.funcs[F]? = some fn) (hname : (fn.name == "runtime.NumGoroutine") = false) (hb : fn.body.isSome = true) (x : Array Value) (W : World) : (callFunc F x).run Try.prog W = .ok (.enter F x) W := by
  have h1 : fn.name ≠ "runtime.NumGoroutine" := by simpa using hname
  obtain ⟨c, hc⟩ := Option.isSome_iff_exists.1 hb
  simp [callFunc, hf, h1, hc]
theorem op_getD (l : List Opn) (k : Nat) (h : k < l.length) : l.getD k op0 ∈ l := by simp [h]
theorem find_at {l : List Opn} {P : Opn → Bool} {k : Nat} (h : k < l.length) (h1 : ∀ j, j < k → P (l.getD j op0) = false) (h2 : P (l.getD k op0) = true) : l.find? P = some (l.getD k op0) := by
  rw [List.find?_eq_some_iff_append]
  refine ⟨h2, l.take k, l.drop (k + 1), ?_, fun a ha => ?_⟩
  · simp [h]
  · obtain ⟨j, hj, rfl⟩ := List.mem_iff_getElem.1 ha
    rw [List.length_take] at hj
    have := h1 j (by omega)
    simp [show j < l.length by omega] at this
    simp [this]
theorem find_no {l : List Opn} {P : Opn → Bool} (h1 : ∀ j, j < l.length → P (l.getD j op0) = false) : l.find? P = none := by
  rw [List.find?_eq_none]
  intro a ha
  obtain ⟨j, hj, rfl⟩ := List.mem_iff_getElem.1 ha
  have := h1 j hj
  simp [hj] at this
  simp [this]
theorem func_nil0 (F : Nat) (cs : Array Value) (W : World) (d : Nat) : (Op.equalIn (d + 1) 76 (.func (.func F) #[] cs) .nilFunc).run Try.prog W = .ok false W := by
  simp [Op.equalIn, run_underlying Try.underlying76]
theorem func_nil (F : Nat) (cs : Array Value) (W : World) : (binOp .eql 76 (.func (.func F) #[] cs) .nilFunc).run Try.prog W = .ok (.bool false) W := by
  simp only [binOp]
  simp [Op.equal, Op.maxDepth, func_nil0 F cs W 9999]
/-- What Ready tells, and leaves. -/
def RdyQ (w : World) (B bh r : Nat) (l : List Opn) (v : Value) (P : Opn → Bool) (e : Ending) (w' : World) : Prop :=
  (∃ o, l.find? P = some o ∧ e = .returned (.tuple #[o.val, .bool true]) ∧ RemQ w B bh r l v o.a o.s w') ∨ (l.find? P = none ∧ e = .returned (.tuple #[op0.val, .bool false]) ∧ Below w.heap.size w w')
/-- An operation's box by its cells. -/
abbrev bx0 : Obj := .cells #[.int .i64 0, .int .i64 0, .int .i64 0, .bool false, .int .i64 0, .int .i64 0, .int .i32 0] 34 (0, 0)
theorem cg_cells (w : World) (g o : Nat) (D : List Value) : Chg w (w.setCells g o D) (fun k => k = g) := by
  obtain ⟨s1, s2, s3, s4⟩ := size_setCells g D o w
  exact ⟨s2, s3, s4, by rw [s1]; exact Nat.le_refl _, fun k _ hq => heap_setCells_other g k hq D o w⟩
theorem remQ_more {w w2 w3 w4 : World} {B bh r : Nat} {l : List Opn} {v : Value} {a s : Int} {N : Nat} (h : HoS w B bh r l v) (hb : Below w.heap.size w w2) (hq : RemQ w2 B bh r l v a s w3) (hc : Chg w3 w4 (fun k => k = N)) (hN : w.heap.size ≤ N) (hN2 : N < w2.heap.size) : RemQ w B bh r l v a s w4 := by
  obtain ⟨v', h1, h2, h3⟩ := hq
  have hno : ∀ k, OwnH bh v' k → ¬ k = N := fun k hk e => by
    subst e
    rcases hk with rfl | hk
    · have := (Array.getElem?_eq_some_iff.1 h.box).1; omega
    · rcases h2 _ hk with q | q
      · have := (h.row.lt _ q).2; omega
      · omega
  refine ⟨v', h1.chg hc hno, fun k hk => ?_, ?_⟩
  · rcases h2 k hk with q | q
    · exact .inl q
    · exact .inr (by have := hb.size; omega)
  · exact cg_trans (cg_trans (cg_below hb (OwnH bh v)) h3 (fun _ _ q => q)) hc (fun k hk q => by omega)
set_option maxRecDepth 100000 in
set_option maxHeartbeats 8000000 in
theorem readyK_any {B bh r : Nat} {l : List Opn} {v : Value} (w : World) (F : Nat) (cs : Array Value) (P : Opn → Bool) (h : HoS w B bh r l v) (hl : l.length ≤ 100000) (hA : Ask F cs P w) :
    Calls Try.prog 39 #[.pointer (some ⟨bh, 0, none⟩), .func (.func F) #[] cs] w (RdyQ w B bh r l v P) := by
  obtain ⟨a, cap, rfl, g1, g2, g3, g4⟩ := h.rd
  obtain ⟨n, hn⟩ : ∃ n, n = l.length := ⟨_, rfl⟩
  rw [← hn] at g1 g3 h ⊢
  obtain ⟨W0, hW0⟩ : ∃ W0, W0 = w.alloc bx0 := ⟨_, rfl⟩
  obtain ⟨N, hN⟩ : ∃ N, N = w.heap.size := ⟨_, rfl⟩
  have hb0 : Below w.heap.size w W0 := by rw [hW0]; exact (Below.refl _ w).alloc (Nat.le_refl _) _
  have HSZ : Hid (W0.heap.size = N + 1 ∧ N = w.heap.size) := ⟨by rw [hW0, hN]; simp, hN⟩
  have hx0 : W0.heap[N]? = some bx0 := by rw [hW0, hN]; exact heap_alloc_new w _
  have HWB : Hid (∀ V, Below W0.heap.size W0 V → Below w.heap.size w V ∧ V.heap[N]? = some bx0) := fun V hV => ⟨hb0.trans (hV.mono hb0.size), bel_heap hV hx0⟩
  have HH0 : Hid (HoS w B bh r l (.slice a n cap)) := h
  have HRD : Hid (∀ V, Below W0.heap.size W0 V → RdP V a n l) := fun V hV => g3.later (HWB.out V hV).1
  have HLN : Hid (n = l.length) := hn
  have hnl : n ≤ 100000 := by omega
  have hk1 : W0.cell? ⟨bh, 1, none⟩ = some (.slice a n cap) := (h.later hb0).cells.2.1
  have HQ : Hid (∃ Q : Ending → World → Prop, Q = RdyQ w B bh r l (.slice a n cap) P) := ⟨_, rfl⟩
  obtain ⟨Q, hQ⟩ := HQ.out
  have HQQ : Hid (∀ e w', RdyQ w B bh r l (.slice a n cap) P e w' → Q e w') := fun e w' q => by rw [hQ]; exact q
  rw [← hQ]
  have HA : Hid (∀ (o : Opn) (V : World), Below W0.heap.size W0 V → Calls Try.prog F (#[o.val] ++ cs) V fun e w' => e = .returned (.bool (P o)) ∧ Below W0.heap.size W0 w' ∧ Below V.heap.size V w') := fun o V hV => (hA.2 o V (HWB.out V hV).1).mono (by
    rintro e w' ⟨rfl, hb⟩
    exact ⟨rfl, hV.trans (hb.mono hV.size), hb⟩)
  have HREM : Hid (∀ (o : Opn) (V : World), Below W0.heap.size W0 V → Calls Try.prog 87 #[.pointer (some ⟨bh, 0, none⟩), o.val] V fun e w' => e = .returned (.tuple #[]) ∧ RemQ V B bh r l (.slice a n cap) o.a o.s w') := fun o V hV => removeK_any V o (h.later (HWB.out V hV).1) (by omega)
  have HB0 : Hid (Below W0.heap.size W0 W0) := Below.refl _ _
  have hfn := func_nil F cs
  have hcf := hA.1
  clear HQ hQ h hn hl g3 g4 g1 hA hb0 hx0
  go_enter Try.func39, Try.ntmps39
  go_upto_region 1 with fail
  rw [← hN, ← hW0]
  clear hN hW0
  go_wp2
  go_loopw [16] (fun x16 wr => ∃ k : Nat, x16 = .int .i64 (k : Int) ∧ k ≤ n ∧ (∀ j, j < k → P (l.getD j op0) = false) ∧ Below W0.heap.size W0 wr) (fun x16 _ => n - (intOf x16).toNat)
  case atStart => exact ⟨0, rfl, by omega, fun j hj => absurd hj (by omega), HB0.out⟩
  case round =>
    obtain ⟨k, hx, hk, hno, hb⟩ := hrel
    subst hx
    have HNO : Hid (∀ j, j < k → P (l.getD j op0) = false) := hno
    have HB : Hid (Below W0.heap.size W0 wr) := hb
    clear hno hb HB0
    by_cases hlt : k < n
    · obtain ⟨b, off, hab, c0, c1, c2, c3, c4, c5, c6⟩ := (HRD.out wr HB.out).at k hlt
      subst hab
      obtain ⟨p, hp⟩ : ∃ p, p = l.getD k op0 := ⟨_, rfl⟩
      rw [← hp] at c0 c1 c2 c3 c4 c5 c6
      have HP : Hid (p = l.getD k op0) := hp
      clear hp
      obtain ⟨W1, hW1⟩ : ∃ W1, W1 = wr.alloc (bxP p) := ⟨_, rfl⟩
      obtain ⟨M, hM⟩ : ∃ M, M = wr.heap.size := ⟨_, rfl⟩
      have hbx : W1.heap[M]? = some (bxP p) := by rw [hW1, hM]; exact heap_alloc_new wr _
      have hb1 : Below wr.heap.size wr W1 := by rw [hW1]; exact (Below.refl _ wr).alloc (Nat.le_refl _) _
      have HB1 : Hid (Below W0.heap.size W0 W1) := HB.out.trans (hb1.mono HB.out.size)
      have HM : Hid (W0.heap.size ≤ M ∧ W1.heap.size = M + 1) := ⟨by rw [hM]; exact HB.out.size, by rw [hW1, hM]; simp⟩
      have HA1 : Calls Try.prog F (#[p.val] ++ cs) W1 fun e w' => e = .returned (.bool (P p)) ∧ Below W0.heap.size W0 w' ∧ w'.heap[M]? = some (bxP p) := (HA.out p W1 HB1.out).mono (by
        rintro e w' ⟨rfl, h1, h2⟩
        exact ⟨rfl, h1, bel_heap h2 hbx⟩)
      have HRE := HREM.out p
      obtain ⟨q0, q1, q2, q3, q4, q5, q6⟩ := opAt_box hbx
      obtain ⟨PP, hPP⟩ : ∃ PP, PP = p := ⟨_, rfl⟩
      rw [← hPP] at HP
      have HPP : Hid (PP = p) := hPP
      cases hz : P p
      · rw [hz] at HA1
        have HN1 : Hid (∀ j, j < k + 1 → P (l.getD j op0) = false) := fun j hj => by
          rcases Nat.lt_or_ge j k with q | q
          · exact HNO.out j q
          · rw [show j = k by omega, ← HP.out, hPP]; exact hz
        clear hz hPP
        obtain ⟨pc, pa, ps, pi, prc, pra, pch⟩ := p
        simp only [Opn.val] at HA1 q0 q1 q2 q3 q4 q5 q6 c0 c1 c2 c3 c4 c5 c6
        go_upto_region 6 with fail
        rw [← hM, ← hW1]
        clear hM hW1
        have HA2 : Hid (Calls Try.prog F (#[.agg #[.int .i64 pc, .int .i64 pa, .int .i64 ps, .bool pi, .int .i64 prc, .int .i64 pra, .int .i32 pch]] ++ cs) W1 fun e w' => e = .returned (.bool false) ∧ Below W0.heap.size W0 w' ∧ w'.heap[M]? = some (bxP ⟨pc, pa, ps, pi, prc, pra, pch⟩)) := HA1
        clear HA1 HRE HREM HA hbx
        go_wp2_with ((with_reducible show Calls _ F _ _ _); refine HA2.out.mono ?_; rintro e w2 ⟨rfl, hg⟩; have HB2 : Hid (Below W0.heap.size W0 w2) := hg.1; clear hg)
        go_roundw
        case rel => exact ⟨k + 1, (by go_num), (by omega), HN1.out, HB2.out⟩
        case measure => simp [intOf]; omega
      · rw [hz] at HA1
        have HZ : Hid (P PP = true) := by rw [hPP]; exact hz
        clear hz hPP
        obtain ⟨pc, pa, ps, pi, prc, pra, pch⟩ := p
        simp only [Opn.val] at HA1 HRE q0 q1 q2 q3 q4 q5 q6 c0 c1 c2 c3 c4 c5 c6
        go_upto_region 6 with fail
        rw [← hM, ← hW1]
        clear hM hW1
        have HA2 : Hid (Calls Try.prog F (#[.agg #[.int .i64 pc, .int .i64 pa, .int .i64 ps, .bool pi, .int .i64 prc, .int .i64 pra, .int .i32 pch]] ++ cs) W1 fun e w' => e = .returned (.bool true) ∧ Below W0.heap.size W0 w' ∧ w'.heap[M]? = some (bxP ⟨pc, pa, ps, pi, prc, pra, pch⟩)) := HA1
        have HMX : Hid (∀ V : World, V.heap[M]? = some (bxP ⟨pc, pa, ps, pi, prc, pra, pch⟩) → V.cell? ⟨M, 0, none⟩ = some (.int .i64 pc) ∧ V.cell? ⟨M, 1, none⟩ = some (.int .i64 pa) ∧ V.cell? ⟨M, 2, none⟩ = some (.int .i64 ps) ∧ V.cell? ⟨M, 3, none⟩ = some (.bool pi) ∧ V.cell? ⟨M, 4, none⟩ = some (.int .i64 prc) ∧ V.cell? ⟨M, 5, none⟩ = some (.int .i64 pra) ∧ V.cell? ⟨M, 6, none⟩ = some (.int .i32 pch)) := fun V hV => opAt_box hV
        have HRE2 : Hid (∀ V : World, Below W0.heap.size W0 V ∧ V.heap[M]? = some (bxP ⟨pc, pa, ps, pi, prc, pra, pch⟩) → Calls Try.prog 87 #[.pointer (some ⟨bh, 0, none⟩), .agg #[.int .i64 pc, .int .i64 pa, .int .i64 ps, .bool pi, .int .i64 prc, .int .i64 pra, .int .i32 pch]] V fun e w' => e = .returned (.tuple #[]) ∧ w'.heap[M]? = some (bxP ⟨pc, pa, ps, pi, prc, pra, pch⟩) ∧ w'.heap[N]? = some bx0 ∧ ∀ W4 : World, Chg w' W4 (fun k => k = N) → RemQ w B bh r l (.slice (some ⟨b, off, none⟩) n cap) pa ps W4) := fun V hV => (HRE V hV.1).mono (by
          rintro e w' ⟨rfl, hq⟩
          have h0 := HH0.out
          have hs := HSZ.out
          have hm := HM.out
          have hb := HWB.out V hV.1
          have hc : Chg V w' (OwnH bh (.slice (some ⟨b, off, none⟩) n cap)) := hq.choose_spec.2.2
          refine ⟨rfl, cg_heap hc hV.2 (fun q => ?_), cg_heap hc hb.2 (fun q => ?_), fun W4 h4 => remQ_more h0 hb.1 hq h4 (by omega) (by have := hV.1.size; omega)⟩
          · have := (h0.lt _ q).1; omega
          · have := (h0.lt _ q).1; omega)
        clear HA1 HRE HREM HA hbx
        go_wp2_with (first
          | (go_at_call 87; refine (HRE2.out _ HB2.out).mono ?_; rintro e w3 ⟨rfl, r1, r2, r3⟩; obtain ⟨n0, n1, n2, n3, n4, n5, n6⟩ := HMX.out w3 r1; have HR3 : Hid (w3.heap[N]? = some bx0 ∧ ∀ W4 : World, Chg w3 W4 (fun k => k = N) → RemQ w B bh r l (.slice (some ⟨b, off, none⟩) n cap) pa ps W4) := ⟨r2, r3⟩; obtain ⟨z0, z1, z2, z3, z4, z5, z6⟩ := opAt_box (o := op0) r2; have zf : ∀ j, w3.frozen? ⟨N, j, none⟩ = false := fun j => Lib.frozen_of_heap r2 _; have zf0 := zf 0; have zf1 := zf 1; have zf2 := zf 2; have zf3 := zf 3; have zf4 := zf 4; have zf5 := zf 5; have zf6 := zf 6; clear r1 r2 r3 zf)
          | ((with_reducible show Calls _ F _ _ _); refine HA2.out.mono ?_; rintro e w2 ⟨rfl, hg⟩; have HB2 : Hid (Below W0.heap.size W0 w2 ∧ w2.heap[M]? = some (bxP ⟨pc, pa, ps, pi, prc, pra, pch⟩)) := ⟨hg.1, hg.2⟩; clear hg; obtain ⟨m0, m1, m2, m3, m4, m5, m6⟩ := HMX.out w2 HB2.out.2))
        refine bodyPost_ret (v := .tuple #[.agg #[.int .i64 pc, .int .i64 pa, .int .i64 ps, .bool pi, .int .i64 prc, .int .i64 pra, .int .i32 pch], .bool true]) ?_ rfl ?_
        · rw [results_cell_tmp rfl]
          go_simp
        · refine HQQ.out _ _ (.inl ⟨⟨pc, pa, ps, pi, prc, pra, pch⟩, ?_, rfl, HR3.out.2 _ (cg_cells w3 N 0 (encP ⟨pc, pa, ps, pi, prc, pra, pch⟩))⟩)
          have h2 := HP.out
          rw [HPP.out] at h2
          rw [h2]
          refine find_at (by have := HLN.out; omega) HNO.out ?_
          rw [← HP.out]; exact HZ.out
    · obtain rfl : k = n := by omega
      obtain ⟨hbw, hbn⟩ := HWB.out wr HB.out
      obtain ⟨z0, z1, z2, z3, z4, z5, z6⟩ := opAt_box (o := op0) hbn
      have zf : ∀ j, wr.frozen? ⟨N, j, none⟩ = false := fun j => Lib.frozen_of_heap hbn _
      have zf0 := zf 0
      have zf1 := zf 1
      have zf2 := zf 2
      have zf3 := zf 3
      have zf4 := zf 4
      have zf5 := zf 5
      have zf6 := zf 6
      have HE : Hid (Q (.returned (.tuple #[.agg #[.int .i64 0, .int .i64 0, .int .i64 0, .bool false, .int .i64 0, .int .i64 0, .int .i32 0], .bool false])) (wr.setCells N 0 (encP op0))) := by
        refine HQQ.out _ _ (.inr ⟨find_no fun j hj => HNO.out j (by have := HLN.out; omega), rfl, ?_⟩)
        have hs := HSZ.out
        exact cg_bel (cg_trans (cg_below hbw (fun k => k = N)) (cg_cells wr N 0 (encP op0)) (fun _ _ q => q)) (Nat.le_refl _) (fun k q => by omega)
      clear zf hbn hbw HRD HREM HA
      go_wp2
      refine bodyPost_ret (v := .tuple #[.agg #[.int .i64 0, .int .i64 0, .int .i64 0, .bool false, .int .i64 0, .int .i64 0, .int .i32 0], .bool false]) ?_ rfl ?_
      · rw [results_cell_tmp rfl]
        go_simp
      · exact HE.out
end Go.Proofs.Ytcbnmahbdcjamaa
