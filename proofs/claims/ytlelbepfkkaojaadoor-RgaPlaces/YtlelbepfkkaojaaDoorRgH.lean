/- The walk of Put; a text of the call's own, and two of them. -/
import Derived.Test.YtlelbepfkkaojaaDoorRgG
namespace Go.Proofs.YtlelbepfkkaojaaDoor
open Go.RowKit Go.Shelf Go.Maps Go.Sort
set_option linter.unusedVariables false
set_option linter.unusedSimpArgs false

/-- What Put leaves. -/
def EndP (W w : World) (P B : Nat) (ve vo vi : Value) (Q M : Nat) (O : List Opn) : Prop :=
  ∃ ve' vo' vi', TxAt w P B ve' vo' vi' Q M O ∧ Chg W w (OwnT P ve vo vi Q M) ∧ ∀ k, OwnT P ve' vo' vi' Q M k → OwnT P ve vo vi Q M k ∨ W.heap.size ≤ k
theorem endP_later {W w : World} {P B Q M : Nat} {ve vo vi : Value} {O : List Opn} (h : TxAt W P B ve vo vi Q M O) (hb : Below W.heap.size W w) : EndP W w P B ve vo vi Q M O :=
  ⟨ve, vo, vi, h.later hb, cg_below hb _, fun k hk => .inl hk⟩
theorem endP_of {W w0 w1 w2 : World} {P B Q M : Nat} {ve vo vi : Value} {O : List Opn} {x : Opn} (hb : Below W.heap.size W w0) (h : EndI w0 w1 P B ve vo vi Q M O x) (h2 : ∀ ve' vi', TxM w1 P B ve' vo vi' Q M (els (O ++ [x])) (marks (O ++ [x])) O (mD O) (topO O) → EndN w1 w2 P B ve' vo vi' Q M (els (O ++ [x])) (marks (O ++ [x])) (O ++ [x])) : EndP W w2 P B ve vo vi Q M (O ++ [x]) := by
  obtain ⟨ve', vi', q1, q2, q3⟩ := h
  obtain ⟨vo', r1, r2, r3⟩ := h2 ve' vi' q1
  have hs := hb.size
  have hs2 := q2.2.2.2.1
  refine ⟨ve', vo', vi', r1, ?_, fun k hk => ?_⟩
  · have c1 : Chg W w1 (OwnT P ve vo vi Q M) := cg_trans (cg_below hb _) q2 (fun k _ r => r)
    refine cg_trans c1 r2 (fun k hk r => ?_)
    rcases q3 k r with r | r
    · exact r
    · omega
  · have : OwnT P ve' vo vi' Q M k ∨ w1.heap.size ≤ k := by
      rcases hk with r | r | r | r | r
      · exact .inl (.inl r)
      · exact .inl (.inr (.inl r))
      · rcases r3 k r with r | r
        · exact .inl (.inr (.inr (.inl r)))
        · exact .inr r
      · exact .inl (.inr (.inr (.inr (.inl r))))
      · exact .inl (.inr (.inr (.inr (.inr r))))
    rcases this with r | r
    · rcases q3 k r with r | r
      · exact .inl r
      · exact .inr (by omega)
    · exact .inr (by omega)
theorem endP_one {W w0 w1 w2 : World} {P B Q M : Nat} {ve vo vi ve' vi' : Value} {rs : List El} {L : List Bool} {O O' : List Opn} {D : DataW Value} {top : Int} (hb : Below W.heap.size W w0) (q1 : TxM w1 P B ve' vo vi' Q M rs L O D top) (q2 : Chg w0 w1 (OwnT P ve vo vi Q M)) (q3 : ∀ k, OwnT P ve' vo vi' Q M k → OwnT P ve vo vi Q M k ∨ w0.heap.size ≤ k)
    (h2 : EndN w1 w2 P B ve' vo vi' Q M (els O') (marks O') O') : EndP W w2 P B ve vo vi Q M O' := by
  obtain ⟨vo', r1, r2, r3⟩ := h2
  have hs := hb.size
  have hs2 := q2.2.2.2.1
  refine ⟨ve', vo', vi', r1, ?_, fun k hk => ?_⟩
  · have c1 : Chg W w1 (OwnT P ve vo vi Q M) := cg_trans (cg_below hb _) q2 (fun k _ r => r)
    refine cg_trans c1 r2 (fun k hk r => ?_)
    rcases q3 k r with r | r
    · exact r
    · omega
  · have : OwnT P ve' vo vi' Q M k ∨ w1.heap.size ≤ k := by
      rcases hk with r | r | r | r | r
      · exact .inl (.inl r)
      · exact .inl (.inr (.inl r))
      · rcases r3 k r with r | r
        · exact .inl (.inr (.inr (.inl r)))
        · exact .inr r
      · exact .inl (.inr (.inr (.inr (.inl r))))
      · exact .inl (.inr (.inr (.inr (.inr r))))
    rcases this with r | r
    · rcases q3 k r with r | r
      · exact .inl r
      · exact .inr (by omega)
    · exact .inr (by omega)
theorem neq_ids (c a d b : Int) (z : Bool) (hz : z = decide (¬ (c, a) = (d, b))) (W : World) : (binOp .neq 30 (.agg #[.int .i64 c, .int .i64 a]) (.agg #[.int .i64 d, .int .i64 b])).run Tryd.prog W = .ok (.bool z) W := by
  subst hz
  by_cases h1 : c = d <;> by_cases h2 : a = b <;> (simp only [Prod.mk.injEq, h1, h2, and_true, true_and, and_false, false_and, not_true, not_false_iff, decide_true, decide_false]; go_simp)
theorem putA_cases (O : List Opn) (x : Opn) (h : opB x = true) :
    (x.s ≤ (lastO O x.a).s → putA O x = (false, 0)) ∧ (¬ x.s ≤ (lastO O x.a).s → (lastO O x.a).s + 1 < x.s → putA O x = (false, 6)) ∧ (¬ x.s ≤ (lastO O x.a).s → ¬ (lastO O x.a).s + 1 < x.s → ¬ x.ref = (0, 0) → hasE O x.ref = false → putA O x = (false, 6)) ∧
      (¬ x.s ≤ (lastO O x.a).s → ¬ (lastO O x.a).s + 1 < x.s → (x.ref = (0, 0) ∨ hasE O x.ref = true) → (x.c ≤ (lastO O x.a).c → putA O x = (false, 1)) ∧ (¬ x.c ≤ (lastO O x.a).c → putA O x = (true, 0))) := by
  have h0 : ¬ opB x = false := by rw [h]; decide
  refine ⟨fun h1 => ?_, fun h1 h2 => ?_, fun h1 h2 h3 h4 => ?_, fun h1 h2 h3 => ?_⟩
  · unfold putA; rw [if_neg h0, if_pos h1]
  · unfold putA; rw [if_neg h0, if_neg h1, if_pos h2]
  · unfold putA; rw [if_neg h0, if_neg h1, if_neg h2, if_pos ⟨h3, h4⟩]
  · have h5 : ¬ (x.ref ≠ (0, 0) ∧ hasE O x.ref = false) := fun q => by
      rcases h3 with r | r
      · exact q.1 r
      · rw [q.2] at r; cases r
    exact ⟨fun h6 => by unfold putA; rw [if_neg h0, if_neg h1, if_neg h2, if_neg h5, if_pos h6], fun h6 => by unfold putA; rw [if_neg h0, if_neg h1, if_neg h2, if_neg h5, if_neg h6]⟩
theorem wf_a {o : Opn} (h : opB o = true) : (Lit.int .i64 o.a).wf = true ∧ (Lit.int .i64 o.ra).wf = true := by
  have h1 := op_id h
  have h2 := op_ref h
  refine ⟨WalkArith.wf_i64 (by omega), ?_⟩
  rcases h2 with ⟨e, _⟩ | ⟨e, h3, h4, h5⟩
  · have : o.ra = 0 := congrArg Prod.snd e
    rw [this]; decide
  · unfold opB rrB zrB idB at h
    simp only [Bool.and_eq_true] at h
    have h6 := h.1.2
    split at h6
    · next hz =>
      simp at hz
      rw [hz.2]; decide
    · simp only [Bool.and_eq_true] at h6
      have h7 := (belB_iff o.ra 4194304).1 h6.1.2
      exact WalkArith.wf_i64 (by omega)
set_option maxHeartbeats 4000000 in
theorem put_rga {P B Q M : Nat} {ve vo vi : Value} {O : List Opn} (hv : Rv O) (x : Opn) (hl : O.length ≤ 99000) (W : World) (h : TxAt W P B ve vo vi Q M O) (hB : B ≤ W.heap.size) :
    Calls Tryd.prog 6 #[.pointer (some ⟨P, 0, none⟩), x.val] W fun e w' => e = .returned (.tuple #[.bool (putA O x).1, .int .i64 (putA O x).2]) ∧ EndP W w' P B ve vo vi Q M (putO O x) := by
  obtain ⟨xc, xa, xs, xi, xrc, xra, xch⟩ := x
  obtain ⟨x, hx⟩ : ∃ x : Opn, x = ⟨xc, xa, xs, xi, xrc, xra, xch⟩ := ⟨_, rfl⟩
  have hxv : (⟨xc, xa, xs, xi, xrc, xra, xch⟩ : Opn).val = .agg #[.int .i64 xc, .int .i64 xa, .int .i64 xs, .bool xi, .int .i64 xrc, .int .i64 xra, .int .i32 xch] := rfl
  rw [hxv, ← hx]
  obtain ⟨W0, hW0⟩ : ∃ W0, W0 = W.alloc (.cells #[.int .i64 xc, .int .i64 xa, .int .i64 xs, .bool xi, .int .i64 xrc, .int .i64 xra, .int .i32 xch] 32) := ⟨_, rfl⟩
  have hg0 : Gw W W0 := by rw [hW0]; exact gw_alloc W _
  have hNb : W0.heap[W.heap.size]? = some (.cells #[.int .i64 xc, .int .i64 xa, .int .i64 xs, .bool xi, .int .i64 xrc, .int .i64 xra, .int .i32 xch] 32) := by rw [hW0]; exact heap_alloc_new W _
  have HBX : Hid (∀ V : World, V.heap[W.heap.size]? = W0.heap[W.heap.size]? → V.cell? ⟨W.heap.size, 0, none⟩ = some (.int .i64 xc) ∧ V.cell? ⟨W.heap.size, 1, none⟩ = some (.int .i64 xa) ∧ V.cell? ⟨W.heap.size, 2, none⟩ = some (.int .i64 xs) ∧ V.cell? ⟨W.heap.size, 3, none⟩ = some (.bool xi) ∧ V.cell? ⟨W.heap.size, 4, none⟩ = some (.int .i64 xrc) ∧ V.cell? ⟨W.heap.size, 5, none⟩ = some (.int .i64 xra) ∧ V.cell? ⟨W.heap.size, 6, none⟩ = some (.int .i32 xch)) := by
    intro V hV
    rw [hNb] at hV
    exact ⟨cell_of_row V _ 0 _ _ _ hV, cell_of_row V _ 1 _ _ _ hV, cell_of_row V _ 2 _ _ _ hV, cell_of_row V _ 3 _ _ _ hV, cell_of_row V _ 4 _ _ _ hV, cell_of_row V _ 5 _ _ _ hV, cell_of_row V _ 6 _ _ _ hV⟩
  have HLATER : Hid (∀ V, Below W.heap.size W V → TxAt V P B ve vo vi Q M O) := fun V hV => h.later hV
  have HRT : Hid (Calls Tryd.prog 16 #[.agg #[.int .i64 xc, .int .i64 xa, .int .i64 xs, .bool xi, .int .i64 xrc, .int .i64 xra, .int .i32 xch]] W0 fun e w' => e = .returned (.bool (opB x)) ∧ Gw W0 w') := by
    rw [hx]; exact right_any ⟨xc, xa, xs, xi, xrc, xra, xch⟩ W0
  have HGP : Hid (Gw W W0) := hg0
  obtain ⟨b0, b1, b2, b3, b4, b5, b6⟩ := HBX.out W0 rfl
  obtain ⟨H, hH⟩ : ∃ H, H = W.heap.size := ⟨_, rfl⟩
  by_cases hop : opB x = false
  · have hans : putA O x = (false, 1) := by unfold putA; rw [if_pos hop]
    have hput : putO O x = O := by unfold putO; rw [hans]; rfl
    have HF : Hid (∀ w', Gw W w' → EndP W w' P B ve vo vi Q M (putO O x)) := fun w' hg => by rw [hput]; exact endP_later h hg.below
    rw [hans]
    rw [hop] at HRT
    rw [← hH] at b0 b1 b2 b3 b4 b5 b6
    clear h hv hl hB hop hans hput HLATER HBX hg0 hNb hx hxv
    go_enter Tryd.func6, Tryd.ntmps6
    go_upto_region 1 with fail
    rw [← hH, ← hW0]
    clear hH hW0
    go_wp2_with (first | (go_at_call 16; refine HRT.out.mono ?_; rintro e w1 ⟨rfl, hg⟩; have HG1 : Hid (Gw W w1) := HGP.out.trans hg; clear hg))
    go_ret2
    exact ⟨rfl, HF.out _ HG1.out⟩
  · have hop' : opB x = true := by simpa using hop
    obtain ⟨hwa, hwr⟩ := wf_a hop'
    rw [hop'] at HRT
    have HLK : Hid (∀ w1, Gw W0 w1 → w1.cell? ⟨P, 3, none⟩ = some (.map (some M)) ∧ (Instr.lookup 46 (.map (some M)) (.int .i64 xa) false).run Tryd.prog w1.drew = .ok (lastO O x.a).val w1.drew ∧ w1.heap[W.heap.size]? = W0.heap[W.heap.size]?) := by
      intro w1 hg
      have hT := h.later (hg0.trans hg).below
      have hT2 := h.later (hg0.trans (hg.trans (gw_drewN w1 1))).below
      refine ⟨hT.cells.2.2.2.1, ?_, hg.below.block _ (Array.getElem?_eq_some_iff.1 hNb).1⟩
      have := TxAt.look (W := w1.drewN 1) hT2 x.a hwa
      rw [hx] at this ⊢
      exact this
    rw [← hH] at b0 b1 b2 b3 b4 b5 b6 HBX HLK
    have hHB := hNb
    rw [← hH] at hHB
    obtain ⟨LL, hLL⟩ : ∃ LL, LL = lastO O x.a := ⟨_, rfl⟩
    rw [← hLL] at HLK
    obtain ⟨lc, la, ls, li, lrc, lra, lch⟩ := LL
    simp only [Opn.val] at HLK
    have hR := (rv_last hv).2 x.a
    have hls : 0 ≤ (lastO O x.a).s ∧ (lastO O x.a).s ≤ 4294967295 := by
      rcases hR with ⟨q, _⟩ | ⟨q, _⟩
      · rw [q]; decide
      · have := op_id (rv_op hv _ q); omega
    have HFN : Hid (∀ w3, Gw W0 w3 → Calls Tryd.prog 17 #[.pointer (some ⟨P, 0, none⟩), .agg #[.int .i64 xrc, .int .i64 xra]] w3 fun e w' => e = .returned (.int .i64 (fIx O x.ref)) ∧ Gw w3 w') := by
      intro w3 hg
      have := find_rga hv (by omega) x.ref hwr w3 (h.later (hg0.trans hg).below)
      rw [hx] at this ⊢
      exact this
    have HKP : Hid (∀ w5, (∃ w4, Gw W0 w4 ∧ EndI w4 w5 P B ve vo vi Q M O x) → w5.heap[W.heap.size]? = W0.heap[W.heap.size]?) := by
      rintro w5 ⟨w4, hg, ve', vi', q1, q2, q3⟩
      have hb4 := hg.below.block _ (Array.getElem?_eq_some_iff.1 hNb).1
      refine (q2.2.2.2.2 _ (Array.getElem?_eq_some_iff.1 (hb4.trans hNb)).1 (fun r => ?_)).trans hb4
      have := (h.ge r).2
      omega
    obtain ⟨IN, HINI, HINR, HNT⟩ : ∃ IN : World → Prop,
        Hid ((putA O x).1 = true → x.ins = true → ∀ w4, Gw W0 w4 → Calls Tryd.prog 18 #[.pointer (some ⟨P, 0, none⟩), .int .i64 (fIx O x.ref), .agg #[.int .i64 xc, .int .i64 xa, .int .i64 xs, .bool xi, .int .i64 xrc, .int .i64 xra, .int .i32 xch]] w4 fun e w' => e = .returned (.tuple #[]) ∧ IN w') ∧
        Hid ((putA O x).1 = true → x.ins = false → ∀ w4, Gw W0 w4 → Calls Tryd.prog 19 #[.pointer (some ⟨P, 0, none⟩), .int .i64 (fIx O x.ref)] w4 fun e w' => e = .returned (.tuple #[]) ∧ IN w') ∧
        Hid (∀ w5, IN w5 → w5.heap[W.heap.size]? = W0.heap[W.heap.size]? ∧ Calls Tryd.prog 20 #[.pointer (some ⟨P, 0, none⟩), .agg #[.int .i64 xc, .int .i64 xa, .int .i64 xs, .bool xi, .int .i64 xrc, .int .i64 xra, .int .i32 xch]] w5 fun e w' => e = .returned (.tuple #[]) ∧ EndP W w' P B ve vo vi Q M (O ++ [x])) := by
      refine ⟨fun w5 => ∃ w4, Gw W0 w4 ∧ EndI w4 w5 P B ve vo vi Q M O x, ?_, ?_, ?_⟩
      · intro hp hi w4 hg
        have hb4 := (hg0.trans hg).below
        have hc := insert_rga hv x hp hi hl w4 (h.later hb4) (Nat.le_trans hB hb4.size)
        have e1 : x.val = .agg #[.int .i64 xc, .int .i64 xa, .int .i64 xs, .bool xi, .int .i64 xrc, .int .i64 xra, .int .i32 xch] := by rw [hx]
        rw [e1] at hc
        exact hc.mono fun e w5 q => ⟨q.1, w4, hg, q.2⟩
      · intro hp hi w4 hg
        have hb4 := (hg0.trans hg).below
        have hh : hasE O x.ref = true := by
          rcases ((putA_iff _ _).1 hp).2.2.1 with q | q
          · rcases op_ref hop' with ⟨_, q2⟩ | ⟨q2, _⟩
            · rw [hi] at q2; cases q2
            · exact absurd q q2
          · exact q
        exact (remove_rga hv x hi hh hl w4 (h.later hb4) (Nat.le_trans hB hb4.size)).mono fun e w5 q => ⟨q.1, w4, hg, q.2⟩
      · intro w5 hw5
        refine ⟨HKP.out w5 hw5, ?_⟩
        obtain ⟨w4, hg, hE⟩ := hw5
        have hb4 := (hg0.trans hg).below
        obtain ⟨ve', vi', q1, q2, q3⟩ := hE
        have hc := note_rga x hwa hl w5 q1 (Nat.le_trans hB (Nat.le_trans hb4.size q2.2.2.2.1))
        have e1 : x.val = .agg #[.int .i64 xc, .int .i64 xa, .int .i64 xs, .bool xi, .int .i64 xrc, .int .i64 xra, .int .i32 xch] := by rw [hx]
        rw [e1] at hc
        refine hc.mono fun e w6 q => ⟨q.1, endP_one hb4 q1 q2 q3 q.2⟩
    have hLs : (lastO O x.a).s = ls ∧ (lastO O x.a).c = lc := by rw [← hLL]; exact ⟨rfl, rfl⟩
    have hxs : x.s = xs ∧ x.c = xc ∧ x.ins = xi ∧ x.ref = (xrc, xra) := by rw [hx]; exact ⟨rfl, rfl, rfl, rfl⟩
    obtain ⟨hA1, hA2, hA3, hA4⟩ := putA_cases O x hop'
    rw [hLs.1, hxs.1] at hA1 hA2
    rw [hLs.2, hxs.2.1] at hA4
    rw [hxs.2.2.1] at HINI HINR
    rw [hLs.1] at hls
    rw [hLs.1, hxs.1] at hA3 hA4
    rw [hxs.2.2.2] at hA3 hA4
    have hfn := fIx_neg O hv x.ref
    rw [hxs.2.2.2] at hfn HFN HINI HINR
    have hri : (xrc, xra) = ((0 : Int), (0 : Int)) → xi = true := fun q => by
      rcases op_ref hop' with ⟨_, q2⟩ | ⟨q2, _⟩
      · rw [← hxs.2.2.1]; exact q2
      · rw [hxs.2.2.2] at q2; exact absurd q q2
    have HFA : Hid (∀ w', Gw W w' → (putA O x).1 = false → EndP W w' P B ve vo vi Q M (putO O x)) := fun w' hg hp => by
      have : putO O x = O := by unfold putO; rw [hp]; rfl
      rw [this]; exact endP_later h hg.below
    have HTR : Hid (∀ w', (putA O x).1 = true → EndP W w' P B ve vo vi Q M (O ++ [x]) → EndP W w' P B ve vo vi Q M (putO O x)) := fun w' hp he => by
      have : putO O x = O ++ [x] := by unfold putO; rw [hp]; rfl
      rw [this]; exact he
    obtain ⟨EN, HFB, HTS, HNU⟩ : ∃ EN : World → Prop, Hid (∀ w', Gw W w' → (putA O x).1 = false → EN w') ∧ Hid (∀ w', EN w' → EndP W w' P B ve vo vi Q M (putO O x)) ∧ Hid ((putA O x).1 = true → ∀ w5, IN w5 → w5.heap[W.heap.size]? = W0.heap[W.heap.size]? ∧ Calls Tryd.prog 20 #[.pointer (some ⟨P, 0, none⟩), .agg #[.int .i64 xc, .int .i64 xa, .int .i64 xs, .bool xi, .int .i64 xrc, .int .i64 xra, .int .i32 xch]] w5 fun e w' => e = .returned (.tuple #[]) ∧ EN w') :=
      ⟨fun w' => EndP W w' P B ve vo vi Q M (putO O x), HFA, fun _ h => h, fun hp w5 hw5 => ⟨(HNT.out w5 hw5).1, (HNT.out w5 hw5).2.mono fun e w' q => ⟨q.1, HTR.out w' hp q.2⟩⟩⟩
    rw [← hH] at HNU
    obtain ⟨ans, hans⟩ : ∃ ans, ans = putA O x := ⟨_, rfl⟩
    rw [← hans] at hA1 hA2 hA3 hA4 HINI HINR HFB HNU ⊢
    generalize fIx O (xrc, xra) = R at HFN HINI HINR hfn
    clear HFA HTR HNT HKP hR hLs hxs hans hLL HLATER h hv hg0 hNb hwa hwr hop hop' hx hl hB
    have HG9 : Hid (Gw W W0) := HGP
    go_enter Tryd.func6, Tryd.ntmps6
    go_upto_region 1 with fail
    rw [← hH, ← hW0]
    clear hH hW0
    go_upto_region 3 with (first | (go_at_call 16; refine HRT.out.mono ?_; rintro e w1 ⟨rfl, hg⟩; have HG1 : Hid (Gw W0 w1) := hg; clear hg))
    obtain ⟨c3, hlk, hbk⟩ := HLK.out w1 HG1.out
    obtain ⟨d0, d1, d2, d3, d4, d5, d6⟩ := HBX.out w1 hbk
    obtain ⟨f3, flk, fbk⟩ := HLK.out (w1.alloc (.cells #[.int .i64 0, .int .i64 0, .int .i64 0, .bool false, .int .i64 0, .int .i64 0, .int .i32 0] 32)) (HG1.out.alloc _)
    obtain ⟨e0, e1, e2, e3, e4, e5, e6⟩ := HBX.out (w1.alloc (.cells #[.int .i64 0, .int .i64 0, .int .i64 0, .bool false, .int .i64 0, .int .i64 0, .int .i32 0] 32)) fbk
    clear b0 b1 b2 b3 b4 b5 b6 HLK HRT
    go_region
    all_goals
      clear c3 hlk hbk d0 d1 d2 d3 d4 d5 d6 f3 flk fbk e0 e1 e2 e3 e4 e5 e6
      obtain ⟨W3, hW3⟩ : ∃ W3, W3 = (w1.alloc (.cells #[.int .i64 lc, .int .i64 la, .int .i64 ls, .bool li, .int .i64 lrc, .int .i64 lra, .int .i32 lch] 32)).drew := ⟨_, rfl⟩
      have hg3 : Gw w1 W3 := by rw [hW3]; exact (gw_alloc w1 _).trans (gw_drewN _ 1)
      have HG3 : Hid (Gw W0 W3) := HG1.out.trans hg3
      have hN1 : W3.heap[w1.heap.size]? = some (.cells #[.int .i64 lc, .int .i64 la, .int .i64 ls, .bool li, .int .i64 lrc, .int .i64 lra, .int .i32 lch] 32) := by rw [hW3]; exact heap_alloc_new w1 _
      have hHb : W0.heap[H]? = some (.cells #[.int .i64 xc, .int .i64 xa, .int .i64 xs, .bool xi, .int .i64 xrc, .int .i64 xra, .int .i32 xch] 32) := hHB
      obtain ⟨N1, hN1e⟩ : ∃ N1, N1 = w1.heap.size := ⟨_, rfl⟩
      rw [← hN1e] at hN1
      have HK : Hid (∀ w4, Gw W3 w4 → w4.cell? ⟨H, 0, none⟩ = some (.int .i64 xc) ∧ w4.cell? ⟨H, 1, none⟩ = some (.int .i64 xa) ∧ w4.cell? ⟨H, 2, none⟩ = some (.int .i64 xs) ∧ w4.cell? ⟨H, 3, none⟩ = some (.bool xi) ∧ w4.cell? ⟨H, 4, none⟩ = some (.int .i64 xrc) ∧ w4.cell? ⟨H, 5, none⟩ = some (.int .i64 xra) ∧ w4.cell? ⟨H, 6, none⟩ = some (.int .i32 xch) ∧ w4.cell? ⟨N1, 0, none⟩ = some (.int .i64 lc)) := by
        intro w4 hg
        have hb := (HG3.out.trans hg).below.block H (Array.getElem?_eq_some_iff.1 hHb).1
        obtain ⟨q0, q1, q2, q3, q4, q5, q6⟩ := HBX.out w4 hb
        have hn := hg.below.block N1 (Array.getElem?_eq_some_iff.1 hN1).1
        rw [hN1] at hn
        exact ⟨q0, q1, q2, q3, q4, q5, q6, cell_of_row w4 N1 0 _ _ _ hn⟩
      obtain ⟨d0, d1, d2, d3, d4, d5, d6, _⟩ := HK.out W3 (Gw.refl _)
      have l2 : W3.cell? ⟨N1, 2, none⟩ = some (.int .i64 ls) := cell_of_row W3 N1 2 _ _ _ hN1
      rw [← hW3]
      rw [← hN1e]
      clear hW3 hN1 hN1e hg3 hHb
      obtain ⟨hl0, hl1⟩ := hls
      have HG93 : Hid (Gw W W3) := HG9.out.trans HG3.out
      by_cases t1 : xs ≤ ls
      · have hd : decide (xs ≤ ls) = true := decide_eq_true t1
        have HAN : Hid (ans = (false, 0)) := hA1 (by omega)
        clear hA1 hA2 hA3 hA4 HINI HINR HFN
        go_wp2
        go_ret2
        exact ⟨(by rw [HAN.out]; rfl), HTS.out _ (HFB.out _ HG93.out (by rw [HAN.out]))⟩
      · have hd : decide (xs ≤ ls) = false := decide_eq_false t1
        by_cases t2 : ls + 1 < xs
        · have hd2 : decide (ls + 1 < xs) = true := decide_eq_true t2
          have HAN : Hid (ans = (false, 6)) := hA2 (by omega) (by omega)
          clear hA1 hA2 hA3 hA4 HINI HINR HFN
          go_wp2
          go_ret2
          exact ⟨(by rw [HAN.out]; rfl), HTS.out _ (HFB.out _ HG93.out (by rw [HAN.out]))⟩
        · have hd2 : decide (ls + 1 < xs) = false := decide_eq_false t2
          obtain ⟨z, hz⟩ : ∃ z, z = decide (¬ ((xrc, xra) = ((0 : Int), (0 : Int)))) := ⟨_, rfl⟩
          have HQ := neq_ids xrc xra 0 0 z hz
          have hA3 := hA3 (by omega) (by omega)
          have hA4 := hA4 (by omega) (by omega)
          have tt1 : ls < xs := by omega
          have tt2 : xs ≤ ls + 1 := by omega
          by_cases t3 : R < 0
          · have hd3 : decide (R < 0) = true := decide_eq_true t3
            rw [hd3] at hfn
            have hnh : hasE O (xrc, xra) = false := by simpa using hfn.symm
            cases z
            · have hzz : (xrc, xra) = ((0 : Int), (0 : Int)) := by simpa using hz.symm
              have hxi := hri hzz
              subst hxi
              have hB4 := hA4 (.inl hzz)
              clear hA1 hA2 hA3 hA4 hz hzz hri hfn hnh
              by_cases t4 : xc ≤ lc
              · have hd4 : decide (xc ≤ lc) = true := decide_eq_true t4
                have HAN : Hid (ans = (false, 1)) := hB4.1 (by omega)
                clear hB4 HINI HINR
                go_wp2_with (first | (go_at_call 17; refine (HFN.out _ HG3.out).mono ?_; rintro e w4 ⟨rfl, hg⟩; have HG4 : Hid (Gw W0 w4) := HG3.out.trans hg; obtain ⟨k0, k1, k2, k3, k4, k5, k6, m0⟩ := HK.out w4 hg; clear hg))
                go_ret2
                exact ⟨(by rw [HAN.out]; rfl), HTS.out _ (HFB.out _ (HG9.out.trans HG4.out) (by rw [HAN.out]))⟩
              · have hd4 : decide (xc ≤ lc) = false := decide_eq_false t4
                have HAN : Hid (ans = (true, 0)) := hB4.2 (by omega)
                have HIC : Hid (∀ w4, Gw W0 w4 → Calls Tryd.prog 18 #[.pointer (some ⟨P, 0, none⟩), .int .i64 R, .agg #[.int .i64 xc, .int .i64 xa, .int .i64 xs, .bool true, .int .i64 xrc, .int .i64 xra, .int .i32 xch]] w4 fun e w' => e = .returned (.tuple #[]) ∧ IN w') := HINI.out (by rw [HAN.out]) rfl
                have HNC : Hid (∀ w5, IN w5 → w5.heap[H]? = W0.heap[H]? ∧ Calls Tryd.prog 20 #[.pointer (some ⟨P, 0, none⟩), .agg #[.int .i64 xc, .int .i64 xa, .int .i64 xs, .bool true, .int .i64 xrc, .int .i64 xra, .int .i32 xch]] w5 fun e w' => e = .returned (.tuple #[]) ∧ EN w') := HNU.out (by rw [HAN.out])
                clear hB4 HINI HINR HNU
                go_wp2_with (first
                  | (go_at_call 17; refine (HFN.out _ HG3.out).mono ?_; rintro e w4 ⟨rfl, hg⟩; have HG4 : Hid (Gw W0 w4) := HG3.out.trans hg; obtain ⟨k0, k1, k2, k3, k4, k5, k6, m0⟩ := HK.out w4 hg; clear hg)
                  | (go_at_call 18; refine (HIC.out _ HG4.out).mono ?_; rintro e w5 ⟨rfl, hin⟩; obtain ⟨hbk, hnc⟩ := HNC.out w5 hin; have HND : Hid (Calls Tryd.prog 20 #[.pointer (some ⟨P, 0, none⟩), .agg #[.int .i64 xc, .int .i64 xa, .int .i64 xs, .bool true, .int .i64 xrc, .int .i64 xra, .int .i32 xch]] w5 fun e w' => e = .returned (.tuple #[]) ∧ EN w') := hnc; obtain ⟨g0, g1, g2, g3, g4, g5, g6⟩ := HBX.out w5 hbk; clear hin hbk hnc)
                  | (go_at_call 20; refine HND.out.mono ?_; rintro e w6 ⟨rfl, z⟩; have HE : Hid (EN w6) := z; clear z))
                go_ret2
                exact ⟨(by rw [HAN.out]; rfl), HTS.out _ HE.out⟩
            · have hzz : ¬ (xrc, xra) = ((0 : Int), (0 : Int)) := of_decide_eq_true hz.symm
              have HAN : Hid (ans = (false, 6)) := hA3 hzz hnh
              clear hA1 hA2 hA3 hA4 hz hzz hri hfn hnh HINI HINR
              go_wp2_with (first | (go_at_call 17; refine (HFN.out _ HG3.out).mono ?_; rintro e w4 ⟨rfl, hg⟩; have HG4 : Hid (Gw W0 w4) := HG3.out.trans hg; obtain ⟨k0, k1, k2, k3, k4, k5, k6, m0⟩ := HK.out w4 hg; clear hg))
              go_ret2
              exact ⟨(by rw [HAN.out]; rfl), HTS.out _ (HFB.out _ (HG9.out.trans HG4.out) (by rw [HAN.out]))⟩
          · have hd3 : decide (R < 0) = false := decide_eq_false t3
            rw [hd3] at hfn
            have hnh : hasE O (xrc, xra) = true := by simpa using hfn.symm
            have hB4 := hA4 (.inr hnh)
            clear hA1 hA2 hA3 hA4 hz hri hfn hnh
            by_cases t4 : xc ≤ lc
            · have hd4 : decide (xc ≤ lc) = true := decide_eq_true t4
              have HAN : Hid (ans = (false, 1)) := hB4.1 (by omega)
              clear hB4 HINI HINR
              go_wp2_with (first | (go_at_call 17; refine (HFN.out _ HG3.out).mono ?_; rintro e w4 ⟨rfl, hg⟩; have HG4 : Hid (Gw W0 w4) := HG3.out.trans hg; obtain ⟨k0, k1, k2, k3, k4, k5, k6, m0⟩ := HK.out w4 hg; clear hg))
              go_ret2
              exact ⟨(by rw [HAN.out]; rfl), HTS.out _ (HFB.out _ (HG9.out.trans HG4.out) (by rw [HAN.out]))⟩
            · cases xi
              · have hd4 : decide (xc ≤ lc) = false := decide_eq_false t4
                have HAN : Hid (ans = (true, 0)) := hB4.2 (by omega)
                have HIC : Hid (∀ w4, Gw W0 w4 → Calls Tryd.prog 19 #[.pointer (some ⟨P, 0, none⟩), .int .i64 R] w4 fun e w' => e = .returned (.tuple #[]) ∧ IN w') := HINR.out (by rw [HAN.out]) rfl
                have HNC : Hid (∀ w5, IN w5 → w5.heap[H]? = W0.heap[H]? ∧ Calls Tryd.prog 20 #[.pointer (some ⟨P, 0, none⟩), .agg #[.int .i64 xc, .int .i64 xa, .int .i64 xs, .bool false, .int .i64 xrc, .int .i64 xra, .int .i32 xch]] w5 fun e w' => e = .returned (.tuple #[]) ∧ EN w') := HNU.out (by rw [HAN.out])
                clear hB4 HINI HINR HNU
                go_wp2_with (first
                  | (go_at_call 17; refine (HFN.out _ HG3.out).mono ?_; rintro e w4 ⟨rfl, hg⟩; have HG4 : Hid (Gw W0 w4) := HG3.out.trans hg; obtain ⟨k0, k1, k2, k3, k4, k5, k6, m0⟩ := HK.out w4 hg; clear hg)
                  | (go_at_call 19; refine (HIC.out _ HG4.out).mono ?_; rintro e w5 ⟨rfl, hin⟩; obtain ⟨hbk, hnc⟩ := HNC.out w5 hin; have HND : Hid (Calls Tryd.prog 20 #[.pointer (some ⟨P, 0, none⟩), .agg #[.int .i64 xc, .int .i64 xa, .int .i64 xs, .bool false, .int .i64 xrc, .int .i64 xra, .int .i32 xch]] w5 fun e w' => e = .returned (.tuple #[]) ∧ EN w') := hnc; obtain ⟨g0, g1, g2, g3, g4, g5, g6⟩ := HBX.out w5 hbk; clear hin hbk hnc)
                  | (go_at_call 20; refine HND.out.mono ?_; rintro e w6 ⟨rfl, z⟩; have HE : Hid (EN w6) := z; clear z))
                go_ret2
                exact ⟨(by rw [HAN.out]; rfl), HTS.out _ HE.out⟩
              · have hd4 : decide (xc ≤ lc) = false := decide_eq_false t4
                have HAN : Hid (ans = (true, 0)) := hB4.2 (by omega)
                have HIC : Hid (∀ w4, Gw W0 w4 → Calls Tryd.prog 18 #[.pointer (some ⟨P, 0, none⟩), .int .i64 R, .agg #[.int .i64 xc, .int .i64 xa, .int .i64 xs, .bool true, .int .i64 xrc, .int .i64 xra, .int .i32 xch]] w4 fun e w' => e = .returned (.tuple #[]) ∧ IN w') := HINI.out (by rw [HAN.out]) rfl
                have HNC : Hid (∀ w5, IN w5 → w5.heap[H]? = W0.heap[H]? ∧ Calls Tryd.prog 20 #[.pointer (some ⟨P, 0, none⟩), .agg #[.int .i64 xc, .int .i64 xa, .int .i64 xs, .bool true, .int .i64 xrc, .int .i64 xra, .int .i32 xch]] w5 fun e w' => e = .returned (.tuple #[]) ∧ EN w') := HNU.out (by rw [HAN.out])
                clear hB4 HINI HINR HNU
                go_wp2_with (first
                  | (go_at_call 17; refine (HFN.out _ HG3.out).mono ?_; rintro e w4 ⟨rfl, hg⟩; have HG4 : Hid (Gw W0 w4) := HG3.out.trans hg; obtain ⟨k0, k1, k2, k3, k4, k5, k6, m0⟩ := HK.out w4 hg; clear hg)
                  | (go_at_call 18; refine (HIC.out _ HG4.out).mono ?_; rintro e w5 ⟨rfl, hin⟩; obtain ⟨hbk, hnc⟩ := HNC.out w5 hin; have HND : Hid (Calls Tryd.prog 20 #[.pointer (some ⟨P, 0, none⟩), .agg #[.int .i64 xc, .int .i64 xa, .int .i64 xs, .bool true, .int .i64 xrc, .int .i64 xra, .int .i32 xch]] w5 fun e w' => e = .returned (.tuple #[]) ∧ EN w') := hnc; obtain ⟨g0, g1, g2, g3, g4, g5, g6⟩ := HBX.out w5 hbk; clear hin hbk hnc)
                  | (go_at_call 20; refine HND.out.mono ?_; rintro e w6 ⟨rfl, z⟩; have HE : Hid (EN w6) := z; clear z))
                go_ret2
                exact ⟨(by rw [HAN.out]; rfl), HTS.out _ HE.out⟩
end Go.Proofs.YtlelbepfkkaojaaDoor
