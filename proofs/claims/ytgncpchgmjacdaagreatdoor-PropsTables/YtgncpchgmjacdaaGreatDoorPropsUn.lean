/- The walk of New once more, which tells besides that the table lies in memory of its own; the reference's Right and New give the same. -/
import Derived.Test.YtgncpchgmjacdaaGreatDoorPropsTm
namespace Go.Proofs.YtgncpchgmjacdaaGreatDoor
open Go.RowKit
set_option linter.unusedVariables false

/-- A table in new memory. -/
def FrT (B : Nat) (w : World) (t : Nat) : Prop := B ≤ t ∧ ∃ a n cap, w.heap[t]? = some (.cells #[.slice a n cap] 105) ∧ ∀ x, a = some x → B ≤ x.block
/-- What New leaves, and where. -/
def NewFr (rs : List Rg) (ns : List (List Int)) (w : World) (e : Ending) (w' : World) : Prop :=
  NewPost rs ns w e w' ∧ ∀ t, e = .returned (.tuple #[.pointer (some ⟨t, 0, none⟩), .int .i64 0]) → FrT w.heap.size w' t

set_option maxHeartbeats 4000000 in
theorem new_fresh (rs : List Rg) (ns : List (List Int)) (a a2 : Option Addr) (len cap len2 cap2 : Nat) (w : World) (hrd : RdR w a len rs) (hnone : a = none → cap = 0) (hrs : RgS rs) (hn : Nms ns) (hrd2 : RdS w a2 len2 ns) (hc2 : len2 ≤ cap2) (hm : len ≤ 100000000) (hm2 : len2 ≤ 9223372036854775807) :
    Calls Tryz.prog 21 #[.slice a len cap, .slice a2 len2 cap2] w (NewFr rs ns w) := by
  have HD : Hid (RdR w a len rs) := hrd
  have HL : Hid (rs.length = len) := hrd.1
  have HNO : Hid (a = none → cap = 0) := hnone
  have HRS : Hid (RgS rs) := hrs
  have HN : Hid (Nms ns) := hn
  have HD2 : Hid (RdS w a2 len2 ns) := hrd2
  have HM : Hid (len ≤ 100000000) := hm
  have HM2 : Hid (len2 ≤ 9223372036854775807 ∧ len2 ≤ cap2) := ⟨hm2, hc2⟩
  clear hrd hnone hrs hn hrd2 hm hm2 hc2
  go_enter Tryz.func21, Tryz.ntmps21
  go_wp2_with fail
  refine (rightClasses_any ns a2 len2 cap2 w HN.out HD2.out HM2.out.2 HM2.out.1).mono ?_
  cases hcls : clsOk ns with
  | false =>
    have HC : Hid (clsOk ns = false) := hcls
    rintro e w' ⟨rfl, hw'⟩
    obtain rfl : w = w' := hw'.symm
    clear hcls
    go_wp2
    go_ret2
    exact ⟨⟨Below.refl _ _, .inl ⟨HC.out, rfl⟩⟩, fun t h => by cases h⟩
  | true =>
    have HC : Hid (clsOk ns = true) := hcls
    rintro e w' ⟨rfl, hw'⟩
    obtain rfl : w = w' := hw'.symm
    clear hcls
    go_wp2
    go_loopw [16] (fun x16 wr => ∃ k : Nat, k ≤ len ∧ x16 = .int .i64 k ∧ (∀ r ∈ rs.take k, reR r = true) ∧ Below w.heap.size w wr) (fun x16 _ => len - (intOf x16).toNat)
    case atStart => exact ⟨0, by omega, rfl, by simp, Below.refl _ _⟩
    case round =>
      obtain ⟨k, hk, hx16, hat, hbel⟩ := hrel
      subst hx16
      have HA : Hid (∀ r ∈ rs.take k, reR r = true) := hat
      have HB : Hid (Below w.heap.size w wr) := hbel
      clear hat hbel
      have hlm := HM.out
      by_cases hlt : k < len
      · obtain ⟨b, off, hab, c0, c1, c2⟩ := (HD.out.later HB.out).at k hlt
        subst hab
        obtain ⟨x, hx⟩ : ∃ x, x = rs.getD k (0, 0, []) := ⟨_, rfl⟩
        rw [← hx] at c0 c1 c2
        have HX : Hid (x = rs.getD k (0, 0, [])) := hx
        have HXM : Hid (x ∈ rs) := by show x ∈ rs; rw [hx]; simp [show k < rs.length by rw [HL.out]; exact hlt]
        obtain ⟨x1, x2, x3⟩ := x
        simp only [] at c0 c1 c2
        obtain ⟨sx, hsx⟩ : ∃ sx, sx = strOfNums x3 := ⟨_, rfl⟩
        rw [← hsx] at c2
        have HRE : Hid (∀ W : World, Calls Tryz.prog 48 #[.agg #[.int .i32 x1, .int .i32 x2, .string sx]] W fun e w' => e = .returned (.bool (reR (x1, x2, x3))) ∧ Below W.heap.size W w') := by
          intro W; rw [hsx]; exact rightEnds_any (x1, x2, x3) W
        have HBA : Hid (∀ (o : Obj) (w' : World), Below (wr.alloc o).heap.size (wr.alloc o) w' → Below w.heap.size w w') := fun o w' h => (HB.out.alloc HB.out.size o).trans (h.mono (by simp; have := HB.out.size; omega))
        have hlm2 : k ≤ 9223372036854775806 := by omega
        clear hx hsx hlm
        go_wp2_with fail
        refine (HRE.out _).mono ?_
        cases hre : reR (x1, x2, x3) with
        | false =>
          have HF : Hid (∃ r ∈ rs, reR r = false) := ⟨_, HXM.out, hre⟩
          rintro e w1 ⟨rfl, hb1⟩
          have HB1 := HBA.out _ w1 hb1
          have HB2 : Hid (Below w.heap.size w w1) := HB1
          clear hb1 HB1 hre
          go_wp2
          go_ret2
          exact ⟨⟨HB2.out, .inr (.inl ⟨HC.out, HF.out, rfl⟩)⟩, fun t h => by cases h⟩
        | true =>
          have HAN : Hid (∀ r ∈ rs.take (k + 1), reR r = true) := by
            intro r hr
            have hkl : k < rs.length := by rw [HL.out]; exact hlt
            rw [List.take_add_one, List.getElem?_eq_getElem hkl, List.mem_append] at hr
            rcases hr with hr | hr
            · exact HA.out r hr
            · have e2 : rs[k] = (x1, x2, x3) := by rw [HX.out]; simp [hkl]
              simp only [Option.toList, List.mem_singleton] at hr
              rw [hr, e2]
              exact hre
          rintro e w1 ⟨rfl, hb1⟩
          have HB1 := HBA.out _ w1 hb1
          have HB2 : Hid (Below w.heap.size w w1) := HB1
          clear hb1 HB1 hre
          go_wp2
          go_roundw
          case rel => exact ⟨k + 1, by omega, by go_num, HAN.out, HB2.out⟩
          case measure => simp [intOf]; omega
      · obtain rfl : k = len := by omega
        have HALL : Hid (∀ r ∈ rs, reR r = true) := by
          intro r hr
          exact HA.out r (by rw [List.take_of_length_le (by rw [HL.out]; omega)]; exact hr)
        clear hlm
        go_wp2_with fail
        refine (clone_any rs a k cap wr (HD.out.later HB.out) HNO.out HM.out).mono ?_
        rintro e w1 ⟨v1, rfl, ho1, hb1⟩
        have HB1 : Hid (Below w.heap.size w w1) := HB.out.trans (hb1.mono HB.out.size)
        have HO1 : Hid (w1.ownsRow wr.heap.size 39 3 v1 rs.length (flatR rs)) := by show w1.ownsRow _ _ _ _ _ _; rw [HL.out]; exact ho1
        have HS1 : Hid (wr.heap.size ≤ w1.heap.size) := hb1.size
        clear ho1 hb1
        go_wp2_with fail
        refine (sort_any rs wr.heap.size v1 w1 HO1.out HS1.out (by rw [HL.out]; exact HM.out)).mono ?_
        rintro e w2 ⟨rfl, hb2, a3, cap3, ds, rfl, hrd3, hperm, hsrt⟩
        have HB2 : Hid (Below w.heap.size w w2) := HB1.out.trans (hb2.mono HB.out.size)
        have HLN : Hid (rs.length = k) := HL.out
        have HD3 : Hid (RdR w2 a3 k ds) := by show RdR w2 a3 k ds; rw [← HLN.out]; exact hrd3
        have HPM : Hid (ds.Perm rs) := hperm
        have HSR : Hid (Srt ds) := hsrt
        have HRS3 : Hid (RgS ds) := fun r hr => HRS.out r (hperm.mem_iff.1 hr)
        rw [HLN.out]
        clear hb2 hrd3 hperm hsrt
        go_wp2_with fail
        refine (meeting_any ds a3 k cap3 w2 HD3.out (by have := HM.out; omega)).mono ?_
        rintro e w3 ⟨b, hmt, rfl, hb3⟩
        have HB3 : Hid (Below w.heap.size w w3) := HB2.out.trans (hb3.mono HB2.out.size)
        have HD4 : Hid (RdR w3 a3 k ds) := HD3.out.later hb3
        have HMT : Hid (MtOf ds b) := hmt
        clear hb3 hmt
        cases b with
        | true =>
          go_wp2
          go_ret2
          exact ⟨⟨HB3.out, .inr (.inr ⟨HC.out, HALL.out, ds, HPM.out, HSR.out, .inl ⟨HMT.out, rfl⟩⟩)⟩, fun t h => by cases h⟩
        | false =>
          go_wp2_with fail
          refine (placed_any ds ns a3 a2 k cap3 len2 cap2 w3 HD4.out HRS3.out HN.out (HD2.out.later HB3.out) HM.out HM2.out.1).mono ?_
          rintro e w4 ⟨hb4, h4⟩
          have HB4 : Hid (Below w.heap.size w w4) := HB3.out.trans (hb4.mono HB3.out.size)
          rcases h4 with ⟨hno, rfl⟩ | ⟨hall, v4, rfl, ho4⟩
          · have HNO4 : Hid (∃ r ∈ ds, r.2.2 ∉ ns) := hno
            clear hb4 hno
            go_wp2
            go_ret2
            exact ⟨⟨HB4.out, .inr (.inr ⟨HC.out, HALL.out, ds, HPM.out, HSR.out, .inr (.inl ⟨HMT.out, HNO4.out, rfl⟩)⟩)⟩, fun t h => by cases h⟩
          · have HALL4 : Hid (∀ r ∈ ds, r.2.2 ∈ ns) := hall
            have HLD : Hid (ds.length = k) := HD4.out.1
            obtain ⟨a5, cap5, rfl, _, _, hrd5⟩ := own_rdP ho4
            have HA5 : Hid (∀ x, a5 = some x → w.heap.size ≤ x.block) := by
              intro x hx
              rcases ho4.2 with ⟨hv, _⟩ | ⟨g, cg, cur, hv, hg, _⟩
              · injection hv with h1; rw [h1] at hx; cases hx
              · injection hv with h1; rw [h1] at hx; cases hx; exact Nat.le_trans HB3.out.size hg
            have HT : Hid (∀ W : World, Below w4.heap.size w4 W → W.heap[w4.heap.size]? = some (.cells #[.slice a5 ds.length cap5] 105) → TblAt W w4.heap.size (ds.map (spOf ns))) := by
              intro W hW hT
              refine ⟨a5, cap5, by rw [List.length_map]; exact hT, ?_⟩
              rw [List.length_map]
              exact hrd5.later hW
            clear hb4 hall ho4 hrd5
            go_wp2
            go_ret2
            refine ⟨⟨HB4.out.alloc HB4.out.size _, .inr (.inr ⟨HC.out, HALL.out, ds, HPM.out, HSR.out, .inr (.inr ⟨HMT.out, HALL4.out, _, rfl, HT.out _ ((Below.refl _ w4).alloc (Nat.le_refl _) _) (heap_alloc_new w4 _)⟩)⟩)⟩, fun t h => ?_⟩
            cases h
            exact ⟨HB4.out.size, _, _, _, heap_alloc_new w4 _, HA5.out⟩
end Go.Proofs.YtgncpchgmjacdaaGreatDoor
