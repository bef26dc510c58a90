/- The walks of the library's search by halves over operations, and of hold's find. -/
import Derived.Test.YtcbnmahbdcjamaaHoA
namespace Go.Proofs.Ytcbnmahbdcjamaa
open Go.RowKit Go.Sort
set_option linter.unusedVariables false
set_option linter.unusedSimpArgs false

/-- An operation's box. -/
abbrev bxP (o : Opn) : Obj := .cells #[.int .i64 o.c, .int .i64 o.a, .int .i64 o.s, .bool o.ins, .int .i64 o.rc, .int .i64 o.ra, .int .i32 o.ch] 34 (0, 0)
/-- An operation's cells at a place. -/
def OpAt (w : World) (b off : Nat) (o : Opn) : Prop := w.cell? ⟨b, off, none⟩ = some (.int .i64 o.c) ∧ w.cell? ⟨b, off + 1, none⟩ = some (.int .i64 o.a) ∧ w.cell? ⟨b, off + 2, none⟩ = some (.int .i64 o.s) ∧ w.cell? ⟨b, off + 3, none⟩ = some (.bool o.ins) ∧ w.cell? ⟨b, off + 4, none⟩ = some (.int .i64 o.rc) ∧ w.cell? ⟨b, off + 5, none⟩ = some (.int .i64 o.ra) ∧ w.cell? ⟨b, off + 6, none⟩ = some (.int .i32 o.ch)
theorem opAt_box {w : World} {b : Nat} {o : Opn} (h : w.heap[b]? = some (bxP o)) : w.cell? ⟨b, 0, none⟩ = some (.int .i64 o.c) ∧ w.cell? ⟨b, 1, none⟩ = some (.int .i64 o.a) ∧ w.cell? ⟨b, 2, none⟩ = some (.int .i64 o.s) ∧ w.cell? ⟨b, 3, none⟩ = some (.bool o.ins) ∧ w.cell? ⟨b, 4, none⟩ = some (.int .i64 o.rc) ∧ w.cell? ⟨b, 5, none⟩ = some (.int .i64 o.ra) ∧ w.cell? ⟨b, 6, none⟩ = some (.int .i32 o.ch) :=
  ⟨cell_of_row w b 0 _ _ _ h, cell_of_row w b 1 _ _ _ h, cell_of_row w b 2 _ _ _ h, cell_of_row w b 3 _ _ _ h, cell_of_row w b 4 _ _ _ h, cell_of_row w b 5 _ _ _ h, cell_of_row w b 6 _ _ _ h⟩
theorem bel_heap {w w' : World} {b : Nat} {x : Obj} (hb : Below w.heap.size w w') (h : w.heap[b]? = some x) : w'.heap[b]? = some x := (hb.block b (Array.getElem?_eq_some_iff.1 h).1).trans h
set_option maxRecDepth 100000 in
set_option maxHeartbeats 4000000 in
theorem bsK_any (v : List Opn) (o : Opn) (a : Option Addr) (len cap : Nat) (w : World) (hA : AscK v) (hrd : RdP w a len v) (hm : len ≤ 4611686018427387903) :
    Calls Try.prog 138 #[.slice a len cap, o.val, .func (.func 139) #[] #[]] w
      fun e w' => ∃ i : Nat, i ≤ v.length ∧ BsK v o i i ∧ e = .returned (.tuple #[.int .i64 i, .bool (fnK v o i)]) ∧ Below w.heap.size w w' := by
  have HA : Hid (AscK v) := hA
  have HD : Hid (∀ W, Below w.heap.size w W → RdP W a len v) := fun W h => hrd.later h
  have HL : Hid (v.length = len) := hrd.1
  obtain ⟨HH, hHH⟩ : ∃ HH, HH = w.heap.size := ⟨_, rfl⟩
  have HSZ : Hid (HH = w.heap.size) := hHH
  have HBX0 : Hid ((w.alloc (bxP o)).heap[HH]? = some (bxP o)) := by rw [hHH]; exact heap_alloc_new w _
  have HB0 : Hid (Below w.heap.size w (w.alloc (bxP o))) := (Below.refl _ w).alloc (Nat.le_refl _) _
  have HCM : Hid (∀ (p : Opn) (W : World), Calls Try.prog 139 #[p.val, o.val] W fun e w' => e = .returned (.int .i64 (cpK p o)) ∧ Below W.heap.size W w') := fun p W => cmpK_any p o W
  have HLT : Hid (∀ h, cpK (v.getD h op0) o < 0 ↔ ltK (v.getD h op0) o) := fun h => cpK_lt _ _
  have HUP : Hid (∀ i j h, BsK v o i j → h < v.length → ltK (v.getD h op0) o → BsK v o (h + 1) j) := fun i j h hb hh hl => bsK_up hA hb hh hl
  have HDN : Hid (∀ i j h, BsK v o i j → h < v.length → ¬ ltK (v.getD h op0) o → BsK v o i h) := fun i j h hb hh hl => bsK_down hA hb hh hl
  have HFN : Hid (∀ i, fnK v o i = (decide (i < v.length) && decide (cpK (v.getD i op0) o = 0))) := fun i => by
    unfold fnK
    congr 1
    rw [Bool.eq_iff_iff]
    simp [cpK_zero, eqK]
  clear hA hrd
  obtain ⟨oc, oa, os, oi, orc, ora, och⟩ := o
  simp only [Opn.val] at HCM ⊢
  go_enter Try.func138, Try.ntmps138
  go_upto_region 3 with fail
  rw [← hHH]
  clear hHH
  go_loopw [9, 10] (fun x9 x10 wr => ∃ i j : Nat, x9 = .int .i64 i ∧ x10 = .int .i64 j ∧ i ≤ j ∧ j ≤ len ∧ BsK v ⟨oc, oa, os, oi, orc, ora, och⟩ i j ∧ wr.heap[HH]? = some (bxP ⟨oc, oa, os, oi, orc, ora, och⟩) ∧ Below w.heap.size w wr) (fun x9 x10 _ => (intOf x10).toNat - (intOf x9).toNat)
  case atStart => exact ⟨0, len, rfl, rfl, by omega, by omega, ⟨fun k hk => absurd hk (by omega), fun k h1 h2 => by rw [HL.out] at h2; omega⟩, HBX0.out, HB0.out⟩
  case round =>
    obtain ⟨i, j, hx9, hx10, hij, hjl, hat, hbx, hbel⟩ := hrel
    subst hx9 hx10
    have HAT : Hid (BsK v ⟨oc, oa, os, oi, orc, ora, och⟩ i j) := hat
    have HB : Hid (Below w.heap.size w wr) := hbel
    have HBX : Hid (wr.heap[HH]? = some (bxP ⟨oc, oa, os, oi, orc, ora, och⟩)) := hbx
    clear hat hbel hbx HBX0 HB0
    by_cases hlt : i < j
    · obtain ⟨h, hh⟩ : ∃ h, h = (i + j) / 2 := ⟨_, rfl⟩
      have hh1 : i ≤ h := by omega
      have hh2 : h < j := by omega
      have hhl : h < len := by omega
      obtain ⟨b, off, hab, c0, c1, c2, c3, c4, c5, c6⟩ := (HD.out wr HB.out).at h hhl
      subst hab
      have hdiv : ((i : Int) + (j : Int)) / 2 = (h : Int) := by omega
      have HH2 : Hid (h = (i + j) / 2) := hh
      clear hh
      have hhr : h < v.length := by rw [HL.out]; exact hhl
      have HUP1 : Hid (cpK (v.getD h op0) ⟨oc, oa, os, oi, orc, ora, och⟩ < 0 → BsK v ⟨oc, oa, os, oi, orc, ora, och⟩ (h + 1) j) := fun q => HUP.out i j h HAT.out hhr ((HLT.out h).1 q)
      have HDN1 : Hid (¬ cpK (v.getD h op0) ⟨oc, oa, os, oi, orc, ora, och⟩ < 0 → BsK v ⟨oc, oa, os, oi, orc, ora, och⟩ i h) := fun q => HDN.out i j h HAT.out hhr (fun q2 => q ((HLT.out h).2 q2))
      have HCM1 : Hid (∀ W : World, Calls Try.prog 139 #[.agg #[.int .i64 (v.getD h op0).c, .int .i64 (v.getD h op0).a, .int .i64 (v.getD h op0).s, .bool (v.getD h op0).ins, .int .i64 (v.getD h op0).rc, .int .i64 (v.getD h op0).ra, .int .i32 (v.getD h op0).ch], .agg #[.int .i64 oc, .int .i64 oa, .int .i64 os, .bool oi, .int .i64 orc, .int .i64 ora, .int .i32 och]] W fun e w' => e = .returned (.int .i64 (cpK (v.getD h op0) ⟨oc, oa, os, oi, orc, ora, och⟩)) ∧ Below W.heap.size W w') := fun W => HCM.out _ W
      generalize cpK (v.getD h op0) ⟨oc, oa, os, oi, orc, ora, och⟩ = sv at HUP1 HDN1 HCM1
      generalize v.getD h op0 = p at HCM1 c0 c1 c2 c3 c4 c5 c6
      obtain ⟨b0, b1, b2, b3, b4, b5, b6⟩ := opAt_box HBX.out
      simp only at b0 b1 b2 b3 b4 b5 b6
      clear hhr HFN
      by_cases hs : sv < 0
      · have HU : Hid (BsK v ⟨oc, oa, os, oi, orc, ora, och⟩ (h + 1) j) := HUP1.out hs
        have hsb : decide (sv < 0) = true := decide_eq_true hs
        clear hs HUP1 HDN1
        go_upto_region 5 with fail
        go_region_with (go_at_call 139; refine (HCM1.out _).mono ?_; rintro e w2 ⟨rfl, hg⟩; have HG2 : Hid (Below wr.heap.size wr w2) := ((Below.refl _ wr).drew).trans hg; clear hg)
        all_goals
          go_wp2
          go_roundw
          case rel => exact ⟨h + 1, j, by go_num, rfl, by omega, by omega, HU.out, bel_heap HG2.out HBX.out, HB.out.trans (HG2.out.mono HB.out.size)⟩
          case measure => simp [intOf]; omega
      · have HU : Hid (BsK v ⟨oc, oa, os, oi, orc, ora, och⟩ i h) := HDN1.out hs
        have hsb : decide (sv < 0) = false := decide_eq_false hs
        clear hs HUP1 HDN1
        go_upto_region 5 with fail
        go_region_with (go_at_call 139; refine (HCM1.out _).mono ?_; rintro e w2 ⟨rfl, hg⟩; have HG2 : Hid (Below wr.heap.size wr w2) := ((Below.refl _ wr).drew).trans hg; clear hg)
        all_goals
          go_wp2
          go_roundw
          case rel => exact ⟨i, h, rfl, rfl, by omega, by omega, HU.out, bel_heap HG2.out HBX.out, HB.out.trans (HG2.out.mono HB.out.size)⟩
          case measure => simp [intOf]; omega
    · obtain rfl : j = i := by omega
      obtain ⟨b0, b1, b2, b3, b4, b5, b6⟩ := opAt_box HBX.out
      simp only at b0 b1 b2 b3 b4 b5 b6
      by_cases hn : j < len
      · obtain ⟨b, off, hab, c0, c1, c2, c3, c4, c5, c6⟩ := (HD.out wr HB.out).at j hn
        subst hab
        have hjl2 : decide (j < len) = true := decide_eq_true hn
        have HF := HFN.out j
        rw [decide_eq_true (show j < v.length by rw [HL.out]; exact hn), Bool.true_and] at HF
        have HCM1 : Hid (∀ W : World, Calls Try.prog 139 #[.agg #[.int .i64 (v.getD j op0).c, .int .i64 (v.getD j op0).a, .int .i64 (v.getD j op0).s, .bool (v.getD j op0).ins, .int .i64 (v.getD j op0).rc, .int .i64 (v.getD j op0).ra, .int .i32 (v.getD j op0).ch], .agg #[.int .i64 oc, .int .i64 oa, .int .i64 os, .bool oi, .int .i64 orc, .int .i64 ora, .int .i32 och]] W fun e w' => e = .returned (.int .i64 (cpK (v.getD j op0) ⟨oc, oa, os, oi, orc, ora, och⟩)) ∧ Below W.heap.size W w') := fun W => HCM.out _ W
        generalize cpK (v.getD j op0) ⟨oc, oa, os, oi, orc, ora, och⟩ = sv at HF HCM1
        generalize v.getD j op0 = p at HCM1 c0 c1 c2 c3 c4 c5 c6
        have HFF : Hid (fnK v ⟨oc, oa, os, oi, orc, ora, och⟩ j = decide (sv = 0)) := HF
        obtain ⟨z, hz2⟩ : ∃ z, (sv == 0) = z := ⟨_, rfl⟩
        have HZZ : Hid (fnK v ⟨oc, oa, os, oi, orc, ora, och⟩ j = z) := by
          rw [HFF.out, ← hz2]
          show decide (sv = 0) = (sv == 0)
          rw [Bool.eq_iff_iff]; simp
        clear HF HFF HFN HLT HUP HDN
        go_upto_region 8 with fail
        have HKP : Hid (∀ W : World, Below wr.heap.size wr.drew W → (fun w' : World => w'.cell? ⟨HH, 0, none⟩ = some (.int .i64 oc) ∧ w'.cell? ⟨HH, 1, none⟩ = some (.int .i64 oa) ∧ w'.cell? ⟨HH, 2, none⟩ = some (.int .i64 os) ∧ w'.cell? ⟨HH, 3, none⟩ = some (.bool oi) ∧ w'.cell? ⟨HH, 4, none⟩ = some (.int .i64 orc) ∧ w'.cell? ⟨HH, 5, none⟩ = some (.int .i64 ora) ∧ w'.cell? ⟨HH, 6, none⟩ = some (.int .i32 och) ∧ w'.cell? ⟨b, off + j * 7, none⟩ = some (.int .i64 p.c) ∧ w'.cell? ⟨b, off + j * 7 + 1, none⟩ = some (.int .i64 p.a) ∧ w'.cell? ⟨b, off + j * 7 + 2, none⟩ = some (.int .i64 p.s) ∧ w'.cell? ⟨b, off + j * 7 + 3, none⟩ = some (.bool p.ins) ∧ w'.cell? ⟨b, off + j * 7 + 4, none⟩ = some (.int .i64 p.rc) ∧ w'.cell? ⟨b, off + j * 7 + 5, none⟩ = some (.int .i64 p.ra) ∧ w'.cell? ⟨b, off + j * 7 + 6, none⟩ = some (.int .i32 p.ch)) wr.drew → (fun w' : World => w'.cell? ⟨HH, 0, none⟩ = some (.int .i64 oc) ∧ w'.cell? ⟨HH, 1, none⟩ = some (.int .i64 oa) ∧ w'.cell? ⟨HH, 2, none⟩ = some (.int .i64 os) ∧ w'.cell? ⟨HH, 3, none⟩ = some (.bool oi) ∧ w'.cell? ⟨HH, 4, none⟩ = some (.int .i64 orc) ∧ w'.cell? ⟨HH, 5, none⟩ = some (.int .i64 ora) ∧ w'.cell? ⟨HH, 6, none⟩ = some (.int .i32 och) ∧ w'.cell? ⟨b, off + j * 7, none⟩ = some (.int .i64 p.c) ∧ w'.cell? ⟨b, off + j * 7 + 1, none⟩ = some (.int .i64 p.a) ∧ w'.cell? ⟨b, off + j * 7 + 2, none⟩ = some (.int .i64 p.s) ∧ w'.cell? ⟨b, off + j * 7 + 3, none⟩ = some (.bool p.ins) ∧ w'.cell? ⟨b, off + j * 7 + 4, none⟩ = some (.int .i64 p.rc) ∧ w'.cell? ⟨b, off + j * 7 + 5, none⟩ = some (.int .i64 p.ra) ∧ w'.cell? ⟨b, off + j * 7 + 6, none⟩ = some (.int .i32 p.ch)) W) := fun W hW q => ⟨upK hW q.1, upK hW q.2.1, upK hW q.2.2.1, upK hW q.2.2.2.1, upK hW q.2.2.2.2.1, upK hW q.2.2.2.2.2.1, upK hW q.2.2.2.2.2.2.1, upK hW q.2.2.2.2.2.2.2.1, upK hW q.2.2.2.2.2.2.2.2.1, upK hW q.2.2.2.2.2.2.2.2.2.1, upK hW q.2.2.2.2.2.2.2.2.2.2.1, upK hW q.2.2.2.2.2.2.2.2.2.2.2.1, upK hW q.2.2.2.2.2.2.2.2.2.2.2.2.1, upK hW q.2.2.2.2.2.2.2.2.2.2.2.2.2⟩
        refine wp_region_noPanic ?_
        refine wp_region_held_drew (S := (fun w' => w'.cell? ⟨HH, 0, none⟩ = some (.int .i64 oc) ∧ w'.cell? ⟨HH, 1, none⟩ = some (.int .i64 oa) ∧ w'.cell? ⟨HH, 2, none⟩ = some (.int .i64 os) ∧ w'.cell? ⟨HH, 3, none⟩ = some (.bool oi) ∧ w'.cell? ⟨HH, 4, none⟩ = some (.int .i64 orc) ∧ w'.cell? ⟨HH, 5, none⟩ = some (.int .i64 ora) ∧ w'.cell? ⟨HH, 6, none⟩ = some (.int .i32 och) ∧ w'.cell? ⟨b, off + j * 7, none⟩ = some (.int .i64 p.c) ∧ w'.cell? ⟨b, off + j * 7 + 1, none⟩ = some (.int .i64 p.a) ∧ w'.cell? ⟨b, off + j * 7 + 2, none⟩ = some (.int .i64 p.s) ∧ w'.cell? ⟨b, off + j * 7 + 3, none⟩ = some (.bool p.ins) ∧ w'.cell? ⟨b, off + j * 7 + 4, none⟩ = some (.int .i64 p.rc) ∧ w'.cell? ⟨b, off + j * 7 + 5, none⟩ = some (.int .i64 p.ra) ∧ w'.cell? ⟨b, off + j * 7 + 6, none⟩ = some (.int .i32 p.ch))) (by kernel_rfl) (⟨b0, b1, b2, b3, b4, b5, b6, c0, c1, c2, c3, c4, c5, c6⟩) (fun hHeld => ?_)
        clear b0 b1 b2 b3 b4 b5 b6 c0 c1 c2 c3 c4 c5 c6
        refine wpAnyH_take (i := 0) (v := ?_) rfl (by kernel_rfl) (by kernel_rfl) (by kernel_rfl) (fun _ _ _ h => h) (Or.inl ⟨by rfl, ?_⟩) (by assumption) ?_
        rotate_left
        · intro W' hSw; obtain ⟨s0, s1, s2, s3, s4, s5, s6, r0, r1, r2, r3, r4, r5, r6⟩ := hSw; go_simp; try with_reducible rfl
        try simp only [Act.put, List.getElem_toArray, List.getElem_cons_succ, List.getElem_cons_zero, List.setIfInBounds_toArray, List.set_cons_zero, List.set_cons_succ]
        refine wpAnyH_take (i := 1) (v := ?_) rfl (by kernel_rfl) (by kernel_rfl) (by kernel_rfl) (fun _ _ _ h => h) (Or.inl ⟨by rfl, ?_⟩) (by assumption) ?_
        rotate_left
        · intro W' hSw; obtain ⟨s0, s1, s2, s3, s4, s5, s6, r0, r1, r2, r3, r4, r5, r6⟩ := hSw; go_simp; try with_reducible rfl
        try simp only [Act.put, List.getElem_toArray, List.getElem_cons_succ, List.getElem_cons_zero, List.setIfInBounds_toArray, List.set_cons_zero, List.set_cons_succ]
        refine wpAnyH_take (i := 2) (v := ?_) rfl (by kernel_rfl) (by kernel_rfl) (by kernel_rfl) (fun _ _ _ h => h) (Or.inl ⟨by rfl, ?_⟩) (by assumption) ?_
        rotate_left
        · intro W' hSw; obtain ⟨s0, s1, s2, s3, s4, s5, s6, r0, r1, r2, r3, r4, r5, r6⟩ := hSw; go_simp; try with_reducible rfl
        try simp only [Act.put, List.getElem_toArray, List.getElem_cons_succ, List.getElem_cons_zero, List.setIfInBounds_toArray, List.set_cons_zero, List.set_cons_succ]
        refine wpAnyH_take (i := 3) (v := ?_) rfl (by kernel_rfl) (by kernel_rfl) (by kernel_rfl) (fun _ _ _ h => h) (Or.inl ⟨by rfl, ?_⟩) (by assumption) ?_
        rotate_left
        · intro W' hSw; obtain ⟨s0, s1, s2, s3, s4, s5, s6, r0, r1, r2, r3, r4, r5, r6⟩ := hSw; go_simp; try with_reducible rfl
        try simp only [Act.put, List.getElem_toArray, List.getElem_cons_succ, List.getElem_cons_zero, List.setIfInBounds_toArray, List.set_cons_zero, List.set_cons_succ]
        refine wpAnyH_take (i := 4) (v := ?_) rfl (by kernel_rfl) (by kernel_rfl) (by kernel_rfl) (fun _ _ _ h => h) (Or.inl ⟨by rfl, ?_⟩) (by assumption) ?_
        rotate_left
        · intro W' hSw; obtain ⟨s0, s1, s2, s3, s4, s5, s6, r0, r1, r2, r3, r4, r5, r6⟩ := hSw; go_simp; try with_reducible rfl
        try simp only [Act.put, List.getElem_toArray, List.getElem_cons_succ, List.getElem_cons_zero, List.setIfInBounds_toArray, List.set_cons_zero, List.set_cons_succ]
        refine wpAnyH_take (i := 5) (v := ?_) rfl (by kernel_rfl) (by kernel_rfl) (by kernel_rfl) (fun _ _ _ h => h) (Or.inl ⟨by rfl, ?_⟩) (by assumption) ?_
        rotate_left
        · intro W' hSw; obtain ⟨s0, s1, s2, s3, s4, s5, s6, r0, r1, r2, r3, r4, r5, r6⟩ := hSw; go_simp; try with_reducible rfl
        try simp only [Act.put, List.getElem_toArray, List.getElem_cons_succ, List.getElem_cons_zero, List.setIfInBounds_toArray, List.set_cons_zero, List.set_cons_succ]
        refine wpAnyH_take (i := 6) (v := ?_) rfl (by kernel_rfl) (by kernel_rfl) (by kernel_rfl) (fun _ _ _ h => h) (Or.inl ⟨by rfl, ?_⟩) (by assumption) ?_
        rotate_left
        · intro W' hSw; obtain ⟨s0, s1, s2, s3, s4, s5, s6, r0, r1, r2, r3, r4, r5, r6⟩ := hSw; go_simp; try with_reducible rfl
        try simp only [Act.put, List.getElem_toArray, List.getElem_cons_succ, List.getElem_cons_zero, List.setIfInBounds_toArray, List.set_cons_zero, List.set_cons_succ]
        refine wpAnyH_take (i := 7) (v := ?_) rfl (by kernel_rfl) (by kernel_rfl) (by kernel_rfl) (fun _ _ _ h => h) (Or.inl ⟨by rfl, ?_⟩) (by assumption) ?_
        rotate_left
        · intro W' hSw; obtain ⟨s0, s1, s2, s3, s4, s5, s6, r0, r1, r2, r3, r4, r5, r6⟩ := hSw; go_simp; try with_reducible rfl
        try simp only [Act.put, List.getElem_toArray, List.getElem_cons_succ, List.getElem_cons_zero, List.setIfInBounds_toArray, List.set_cons_zero, List.set_cons_succ]
        refine wpAnyH_take (i := 8) (v := ?_) rfl (by kernel_rfl) (by kernel_rfl) (by kernel_rfl) (fun _ _ _ h => h) (Or.inl ⟨by rfl, ?_⟩) (by assumption) ?_
        rotate_left
        · intro W' hSw; obtain ⟨s0, s1, s2, s3, s4, s5, s6, r0, r1, r2, r3, r4, r5, r6⟩ := hSw; go_simp; try with_reducible rfl
        try simp only [Act.put, List.getElem_toArray, List.getElem_cons_succ, List.getElem_cons_zero, List.setIfInBounds_toArray, List.set_cons_zero, List.set_cons_succ]
        refine wpAnyH_take (i := 9) (v := ?_) rfl (by kernel_rfl) (by kernel_rfl) (by kernel_rfl) (fun _ _ _ h => h) (Or.inl ⟨by rfl, ?_⟩) (by assumption) ?_
        rotate_left
        · intro W' hSw; obtain ⟨s0, s1, s2, s3, s4, s5, s6, r0, r1, r2, r3, r4, r5, r6⟩ := hSw; go_simp; try with_reducible rfl
        try simp only [Act.put, List.getElem_toArray, List.getElem_cons_succ, List.getElem_cons_zero, List.setIfInBounds_toArray, List.set_cons_zero, List.set_cons_succ]
        refine wpAnyH_take (i := 10) (v := ?_) rfl (by kernel_rfl) (by kernel_rfl) (by kernel_rfl) (fun _ _ _ h => h) (Or.inl ⟨by rfl, ?_⟩) (by assumption) ?_
        rotate_left
        · intro W' hSw; obtain ⟨s0, s1, s2, s3, s4, s5, s6, r0, r1, r2, r3, r4, r5, r6⟩ := hSw; go_simp; try with_reducible rfl
        try simp only [Act.put, List.getElem_toArray, List.getElem_cons_succ, List.getElem_cons_zero, List.setIfInBounds_toArray, List.set_cons_zero, List.set_cons_succ]
        refine wpAnyH_ready (rs := [11]) (by kernel_rfl) (by simp) ?_
        refine AllReadyH.cons rfl (fun KK hK => ?_) AllReadyH.nil
        go_simp
        refine (HCM1.out _).mono ?_
        rintro e w2 ⟨rfl, hg⟩
        have HG2 : Hid (Below wr.heap.size wr w2) := ((Below.refl _ wr).drew).trans hg
        have HG3 : Hid (Below wr.heap.size wr.drew w2) := hg
        clear hg
        refine hK.out _ _ (HKP.out _ HG3.out hHeld) (fun hHeld => ?_)
        clear hK KK
        try simp only [Act.put, List.getElem_toArray, List.getElem_cons_succ, List.getElem_cons_zero, List.setIfInBounds_toArray, List.set_cons_zero, List.set_cons_succ]
        refine wpAnyH_take (i := 12) (v := ?_) rfl (by kernel_rfl) (by kernel_rfl) (by kernel_rfl) (fun _ _ _ h => h) (Or.inl ⟨by rfl, ?_⟩) (by assumption) ?_
        rotate_left
        · intro W' hSw; obtain ⟨s0, s1, s2, s3, s4, s5, s6, r0, r1, r2, r3, r4, r5, r6⟩ := hSw; go_simp; try with_reducible rfl
        try simp only [Act.put, List.getElem_toArray, List.getElem_cons_succ, List.getElem_cons_zero, List.setIfInBounds_toArray, List.set_cons_zero, List.set_cons_succ]
        refine wpAnyH_take (i := 13) (v := ?_) rfl (by kernel_rfl) (by kernel_rfl) (by kernel_rfl) (fun _ _ _ h => h) (Or.inl ⟨by rfl, ?_⟩) (by assumption) ?_
        rotate_left
        · intro W' hSw; obtain ⟨s0, s1, s2, s3, s4, s5, s6, r0, r1, r2, r3, r4, r5, r6⟩ := hSw; go_simp; try with_reducible rfl
        try simp only [Act.put, List.getElem_toArray, List.getElem_cons_succ, List.getElem_cons_zero, List.setIfInBounds_toArray, List.set_cons_zero, List.set_cons_succ]
        refine wpAnyH_take (i := 14) (v := ?_) rfl (by kernel_rfl) (by kernel_rfl) (by kernel_rfl) (fun _ _ _ h => h) (Or.inl ⟨by rfl, ?_⟩) (by assumption) ?_
        rotate_left
        · intro W' hSw; obtain ⟨s0, s1, s2, s3, s4, s5, s6, r0, r1, r2, r3, r4, r5, r6⟩ := hSw; go_simp; try with_reducible rfl
        try simp only [Act.put, List.getElem_toArray, List.getElem_cons_succ, List.getElem_cons_zero, List.setIfInBounds_toArray, List.set_cons_zero, List.set_cons_succ]
        refine wpAnyH_ready (rs := [15]) (by kernel_rfl) (by simp) ?_
        refine AllReadyH.cons rfl (fun KK hK => ?_) AllReadyH.nil
        go_simp
        refine hK.out _ _ hHeld (fun hHeld => ?_)
        clear hK KK
        try simp only [Act.put, List.getElem_toArray, List.getElem_cons_succ, List.getElem_cons_zero, List.setIfInBounds_toArray, List.set_cons_zero, List.set_cons_succ]
        refine wpAnyH_done (by kernel_rfl) ?_ _
        refine NoPanic.normal ?_
        clear hHeld
        go_wp2
        go_ret2
        exact ⟨j, by rw [HL.out]; omega, HAT.out, by rw [HZZ.out]; rfl, HB.out.trans (HG2.out.mono HB.out.size)⟩
      · have HF := HFN.out j
        rw [decide_eq_false (show ¬ j < v.length by rw [HL.out]; exact hn), Bool.false_and] at HF
        have HFF : Hid (fnK v ⟨oc, oa, os, oi, orc, ora, och⟩ j = false) := HF
        have hjl2 : decide (j < len) = false := decide_eq_false hn
        clear HF HFN HLT HUP HDN
        go_upto_region 8 with fail
        refine wp_region_noPanic ?_
        refine wp_region_held_drew (S := (fun w' => True)) (by kernel_rfl) (trivial) (fun hHeld => ?_)
        refine wpAnyH_take (i := 0) (v := ?_) rfl (by kernel_rfl) (by kernel_rfl) (by kernel_rfl) (fun _ _ _ h => h) (Or.inl ⟨by rfl, ?_⟩) (by assumption) ?_
        rotate_left
        · intro W' hSw; obtain _h0 := hSw; go_simp; try with_reducible rfl
        try simp only [Act.put, List.getElem_toArray, List.getElem_cons_succ, List.getElem_cons_zero, List.setIfInBounds_toArray, List.set_cons_zero, List.set_cons_succ]
        refine wpAnyH_take (i := 1) (v := ?_) rfl (by kernel_rfl) (by kernel_rfl) (by kernel_rfl) (fun _ _ _ h => h) (Or.inl ⟨by rfl, ?_⟩) (by assumption) ?_
        rotate_left
        · intro W' hSw; obtain _h0 := hSw; go_simp; try with_reducible rfl
        try simp only [Act.put, List.getElem_toArray, List.getElem_cons_succ, List.getElem_cons_zero, List.setIfInBounds_toArray, List.set_cons_zero, List.set_cons_succ]
        refine wpAnyH_take (i := 2) (v := ?_) rfl (by kernel_rfl) (by kernel_rfl) (by kernel_rfl) (fun _ _ _ h => h) (Or.inl ⟨by rfl, ?_⟩) (by assumption) ?_
        rotate_left
        · intro W' hSw; obtain _h0 := hSw; go_simp; try with_reducible rfl
        try simp only [Act.put, List.getElem_toArray, List.getElem_cons_succ, List.getElem_cons_zero, List.setIfInBounds_toArray, List.set_cons_zero, List.set_cons_succ]
        refine wpAnyH_take (i := 3) (v := ?_) rfl (by kernel_rfl) (by kernel_rfl) (by kernel_rfl) (fun _ _ _ h => h) (Or.inl ⟨by rfl, ?_⟩) (by assumption) ?_
        rotate_left
        · intro W' hSw; obtain _h0 := hSw; go_simp; try with_reducible rfl
        try simp only [Act.put, List.getElem_toArray, List.getElem_cons_succ, List.getElem_cons_zero, List.setIfInBounds_toArray, List.set_cons_zero, List.set_cons_succ]
        refine wpAnyH_take (i := 4) (v := ?_) rfl (by kernel_rfl) (by kernel_rfl) (by kernel_rfl) (fun _ _ _ h => h) (Or.inl ⟨by rfl, ?_⟩) (by assumption) ?_
        rotate_left
        · intro W' hSw; obtain _h0 := hSw; go_simp; try with_reducible rfl
        try simp only [Act.put, List.getElem_toArray, List.getElem_cons_succ, List.getElem_cons_zero, List.setIfInBounds_toArray, List.set_cons_zero, List.set_cons_succ]
        refine wpAnyH_take (i := 5) (v := undef) rfl (by kernel_rfl) (by kernel_rfl) (by kernel_rfl) (fun _ _ _ h => h) (Or.inr ⟨by rfl, rfl⟩) (by assumption) ?_
        try simp only [Act.put, List.getElem_toArray, List.getElem_cons_succ, List.getElem_cons_zero, List.setIfInBounds_toArray, List.set_cons_zero, List.set_cons_succ]
        refine wpAnyH_take (i := 6) (v := undef) rfl (by kernel_rfl) (by kernel_rfl) (by kernel_rfl) (fun _ _ _ h => h) (Or.inr ⟨by rfl, rfl⟩) (by assumption) ?_
        try simp only [Act.put, List.getElem_toArray, List.getElem_cons_succ, List.getElem_cons_zero, List.setIfInBounds_toArray, List.set_cons_zero, List.set_cons_succ]
        refine wpAnyH_take (i := 7) (v := undef) rfl (by kernel_rfl) (by kernel_rfl) (by kernel_rfl) (fun _ _ _ h => h) (Or.inr ⟨by rfl, rfl⟩) (by assumption) ?_
        try simp only [Act.put, List.getElem_toArray, List.getElem_cons_succ, List.getElem_cons_zero, List.setIfInBounds_toArray, List.set_cons_zero, List.set_cons_succ]
        refine wpAnyH_take (i := 8) (v := undef) rfl (by kernel_rfl) (by kernel_rfl) (by kernel_rfl) (fun _ _ _ h => h) (Or.inr ⟨by rfl, rfl⟩) (by assumption) ?_
        try simp only [Act.put, List.getElem_toArray, List.getElem_cons_succ, List.getElem_cons_zero, List.setIfInBounds_toArray, List.set_cons_zero, List.set_cons_succ]
        refine wpAnyH_take (i := 9) (v := undef) rfl (by kernel_rfl) (by kernel_rfl) (by kernel_rfl) (fun _ _ _ h => h) (Or.inr ⟨by rfl, rfl⟩) (by assumption) ?_
        try simp only [Act.put, List.getElem_toArray, List.getElem_cons_succ, List.getElem_cons_zero, List.setIfInBounds_toArray, List.set_cons_zero, List.set_cons_succ]
        refine wpAnyH_take (i := 10) (v := undef) rfl (by kernel_rfl) (by kernel_rfl) (by kernel_rfl) (fun _ _ _ h => h) (Or.inr ⟨by rfl, rfl⟩) (by assumption) ?_
        try simp only [Act.put, List.getElem_toArray, List.getElem_cons_succ, List.getElem_cons_zero, List.setIfInBounds_toArray, List.set_cons_zero, List.set_cons_succ]
        refine wpAnyH_take (i := 11) (v := undef) rfl (by kernel_rfl) (by kernel_rfl) (by kernel_rfl) (fun _ _ _ h => h) (Or.inr ⟨by rfl, rfl⟩) (by assumption) ?_
        try simp only [Act.put, List.getElem_toArray, List.getElem_cons_succ, List.getElem_cons_zero, List.setIfInBounds_toArray, List.set_cons_zero, List.set_cons_succ]
        refine wpAnyH_take (i := 12) (v := undef) rfl (by kernel_rfl) (by kernel_rfl) (by kernel_rfl) (fun _ _ _ h => h) (Or.inr ⟨by rfl, rfl⟩) (by assumption) ?_
        try simp only [Act.put, List.getElem_toArray, List.getElem_cons_succ, List.getElem_cons_zero, List.setIfInBounds_toArray, List.set_cons_zero, List.set_cons_succ]
        refine wpAnyH_take (i := 13) (v := ?_) rfl (by kernel_rfl) (by kernel_rfl) (by kernel_rfl) (fun _ _ _ h => h) (Or.inl ⟨by rfl, ?_⟩) (by assumption) ?_
        rotate_left
        · intro W' hSw; obtain _h0 := hSw; go_simp; try with_reducible rfl
        try simp only [Act.put, List.getElem_toArray, List.getElem_cons_succ, List.getElem_cons_zero, List.setIfInBounds_toArray, List.set_cons_zero, List.set_cons_succ]
        refine wpAnyH_take (i := 14) (v := ?_) rfl (by kernel_rfl) (by kernel_rfl) (by kernel_rfl) (fun _ _ _ h => h) (Or.inl ⟨by rfl, ?_⟩) (by assumption) ?_
        rotate_left
        · intro W' hSw; obtain _h0 := hSw; go_simp; try with_reducible rfl
        try simp only [Act.put, List.getElem_toArray, List.getElem_cons_succ, List.getElem_cons_zero, List.setIfInBounds_toArray, List.set_cons_zero, List.set_cons_succ]
        refine wpAnyH_ready (rs := [15]) (by kernel_rfl) (by simp) ?_
        refine AllReadyH.cons rfl (fun KK hK => ?_) AllReadyH.nil
        go_simp
        refine hK.out _ _ trivial (fun hHeld => ?_)
        clear hK KK
        try simp only [Act.put, List.getElem_toArray, List.getElem_cons_succ, List.getElem_cons_zero, List.setIfInBounds_toArray, List.set_cons_zero, List.set_cons_succ]
        refine wpAnyH_done (by kernel_rfl) ?_ _
        refine NoPanic.normal ?_
        clear hHeld
        go_wp2
        go_ret2
        exact ⟨j, by rw [HL.out]; omega, HAT.out, by rw [HFF.out]; rfl, HB.out.drew⟩
end Go.Proofs.Ytcbnmahbdcjamaa
