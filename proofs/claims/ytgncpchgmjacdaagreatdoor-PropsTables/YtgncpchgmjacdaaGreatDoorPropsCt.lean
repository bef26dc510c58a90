/- The walk of cut: at most sixty ranges and thirty names, each in memory of their own. -/
import Derived.Test.YtgncpchgmjacdaaGreatDoorBasR
import Derived.Test.YtgncpchgmjacdaaGreatDoorPropsX
import Derived.Test.YtgncpchgmjacdaaGreatDoorPropsOw
namespace Go.Proofs.YtgncpchgmjacdaaGreatDoor
open Go.RowKit
set_option linter.unusedVariables false

theorem flatR_cells1 (rs : List Rg) : ∀ v ∈ flatR rs, v.oneCell' = true := by
  intro v hv
  unfold flatR at hv
  obtain ⟨x, _, hx⟩ := List.mem_flatMap.1 hv
  simp [encR] at hx
  rcases hx with rfl | rfl | rfl <;> rfl
theorem flatN_cells1 (ns : List (List Int)) : ∀ v ∈ flatN ns, v.oneCell' = true := by
  intro v hv
  unfold flatN at hv
  obtain ⟨x, _, rfl⟩ := List.mem_map.1 hv
  rfl
/-- Two rows have not the same block. -/
def Apt (u v : Value) : Prop := ∀ g, u.ownBlock = some g → v.ownBlock ≠ some g
theorem apt_of {w : World} {B B' : Nat} {e e' : TypeId} {s s' : Nat} {u v : Value} {n m : Nat} {xs ys : List Value} (hu : w.ownsRow B e s u n xs) (hv : w.ownsRow B' e' s' v m ys) (hee : e ≠ e') : Apt u v := by
  intro g hg hg'
  rcases hu.2 with ⟨rfl, _⟩ | ⟨g1, c1, cur1, rfl, _, h1, _⟩
  · cases hg
  · rcases hv.2 with ⟨rfl, _⟩ | ⟨g2, c2, cur2, rfl, _, h2, _⟩
    · cases hg'
    · cases hg
      cases hg'
      rw [h1] at h2
      cases h2
      exact hee rfl
theorem kept_apt {w w' : World} {B : Nat} {e : TypeId} {s : Nat} {u v : Value} {n : Nat} {xs : List Value} (h : w.ownsRow B e s u n xs) (hg : w.grownBy w' v.ownBlock) (ha : Apt u v) : w'.ownsRow B e s u n xs := by
  refine h.kept hg ?_
  cases hb : u.ownBlock with
  | none => exact .inl rfl
  | some g => exact .inr (fun e => ha g hb e.symm)
/-- What cut leaves. -/
def CutPost (rs : List Rg) (ns : List (List Int)) (n m : Nat) (w : World) (e : Ending) (w' : World) : Prop :=
  ∃ va vb, e = .returned (.tuple #[va, vb]) ∧ Below w.heap.size w w' ∧ w'.ownsRow w.heap.size 39 3 va n (flatR (rs.take 60)) ∧ w'.ownsRow w.heap.size 9 1 vb m (flatN (ns.take 30)) ∧ Apt va vb
theorem src_rdR {w : World} {a : Option Addr} {len cap n : Nat} {rs : List Rg} (h : RdR w a len rs) (hnone : a = none → cap = 0) (hc : len ≤ cap) (hn : n = min len 60) : SrcAt w a n cap 3 (flatR (rs.take 60)) := by
  have hl := h.1
  refine ⟨by rw [flatR_len, List.length_take]; omega, fun ha => ?_, fun x hx j u hu => ?_, flatR_cells1 _⟩
  · have := hnone ha; omega
  · have hp : j < (flatR (rs.take 60)).length := by
      rcases Nat.lt_or_ge j (flatR (rs.take 60)).length with h | h
      · exact h
      · rw [List.getElem?_eq_none h] at hu; cases hu
    have hp' := hp
    rw [flatR_len, List.length_take] at hp'
    obtain ⟨b, off, hb, hcell⟩ := h.2 (by omega)
    rw [hx] at hb
    cases hb
    rw [add_lit]
    refine hcell j u ?_
    rw [show flatR rs = flatR (rs.take 60) ++ flatR (rs.drop 60) by rw [← flatR_app, List.take_append_drop], List.getElem?_append_left hp]
    exact hu
theorem src_rdS {w : World} {a : Option Addr} {len cap n : Nat} {ns : List (List Int)} (h : RdS w a len ns) (hnone : a = none → cap = 0) (hc : len ≤ cap) (hn : n = min len 30) : SrcAt w a n cap 1 (flatN (ns.take 30)) := by
  have hl := h.1
  refine ⟨by unfold flatN; rw [List.length_map, List.length_take]; omega, fun ha => ?_, fun x hx j u hu => ?_, flatN_cells1 _⟩
  · have := hnone ha; omega
  · have hp : j < (ns.take 30).length := by
      rcases Nat.lt_or_ge j (ns.take 30).length with h | h
      · exact h
      · unfold flatN at hu; rw [List.getElem?_map, List.getElem?_eq_none h] at hu; cases hu
    have hp' := hp
    rw [List.length_take] at hp'
    obtain ⟨b, off, hb, hcell⟩ := h.2 (by omega)
    rw [hx] at hb
    cases hb
    rw [add_lit, hcell j (by omega)]
    unfold flatN at hu
    rw [List.getElem?_map, List.getElem?_eq_getElem hp] at hu
    rw [← hu, List.getElem_take]
    simp [show j < ns.length by omega]

set_option maxHeartbeats 4000000 in
theorem cutT_any (rs : List Rg) (ns : List (List Int)) (a : Option Addr) (len cap : Nat) (an : Option Addr) (ln capn n m : Nat) (w : World) (hrd : RdR w a len rs) (hnone : a = none → cap = 0) (hc : len ≤ cap) (hcm : cap ≤ 9223372036854775807)
    (hrn : RdS w an ln ns) (hnone2 : an = none → capn = 0) (hcn : ln ≤ capn) (hcnm : capn ≤ 9223372036854775807) (hn : n = min len 60) (hm : m = min ln 30) :
    Calls Tryz.prog 20 #[.slice a len cap, .slice an ln capn] w (CutPost rs ns n m w) := by
  obtain ⟨i0, hi, hz0, hz1, hz2⟩ := info_parts info_R
  have HI : Hid (Tryz.prog.info? 39 = some i0 ∧ i0.zero = some (.agg #[.int .i32 0, .int .i32 0, .string ⟨#[]⟩]) ∧ i0.size = 3 ∧ i0.bytes = 24) := ⟨hi, hz0, hz1, hz2⟩
  clear hi hz0 hz1 hz2
  obtain ⟨i1, hi, hz0, hz1, hz2⟩ := info_parts info_T
  have HI1 : Hid (Tryz.prog.info? 9 = some i1 ∧ i1.zero = some (.string ⟨#[]⟩) ∧ i1.size = 1 ∧ i1.bytes = 16) := ⟨hi, hz0, hz1, hz2⟩
  clear hi hz0 hz1 hz2
  have hmin1 := min_run len n 60 (by omega)
  have hmin2 := min_run ln m 30 (by omega)
  have hcut1 := cutR_to a len cap n (by omega)
  have hcut2 := cutS_to an ln capn m (by omega)
  have hn60 : (n : Int) ≤ 60 := by omega
  have hm30 : (m : Int) ≤ 30 := by omega
  have HSRC : Hid (∀ W, Below w.heap.size w W → SrcAt W a n cap 3 (flatR (rs.take 60)) ∧ SrcAt W an m capn 1 (flatN (ns.take 30))) := fun W hW => ⟨src_rdR (hrd.later hW) hnone hc hn, src_rdS (hrn.later hW) hnone2 hcn hm⟩
  clear hrd hnone hc hrn hnone2 hcn hn hm hcm hcnm
  obtain ⟨W0, hW0⟩ : ∃ W0, W0 = w.drew := ⟨_, rfl⟩
  obtain ⟨b1, hb1e⟩ : ∃ b1, b1 = w.heap.size := ⟨_, rfl⟩
  have HB1E : Hid (b1 = w.heap.size) := hb1e
  have HZ : Hid (Below w.heap.size w W0 ∧ W0.heap.size = b1) := by rw [hW0, hb1e]; exact ⟨(Below.refl _ w).drew, rfl⟩
  have HBE : Hid (∀ W, Below b1 W0 W → Below w.heap.size w W) := fun W hW => HZ.out.1.trans (hW.mono (Nat.le_of_eq HB1E.out.symm))
  have HSR : Hid (∀ W, Below b1 W0 W → SrcAt W a n cap 3 (flatR (rs.take 60)) ∧ SrcAt W an m capn 1 (flatN (ns.take 30))) := fun W hW => HSRC.out W (HBE.out W hW)
  have HBW0 : Hid (∀ W, Below b1 W0 W → b1 ≤ W.heap.size) := by
    intro W hW
    have := hW.size
    rw [HZ.out.2] at this
    exact this
  have HB0 : Hid (Below b1 W0 W0) := Below.refl _ _
  go_enter Tryz.func20, Tryz.ntmps20
  go_upto_region 1 with fail
  refine wp_region_any (by kernel_rfl) ?_
  try (change wpAny _ _ _ _ _ _ _ (World.drew _))
  rw [← hW0]
  clear hW0 hb1e
  refine wpAny_take (i := 1) (v := ?_) rfl (by kernel_rfl) (by kernel_rfl) (by kernel_rfl) (fun _ _ _ h => h) (Or.inl ⟨by rfl, ?_⟩) ?_
  rotate_left
  · intro w; go_simp; try with_reducible rfl
  go_simp
  refine wpAny_take (i := 2) (v := ?_) rfl (by kernel_rfl) (by kernel_rfl) (by kernel_rfl) (fun _ _ _ h => h) (Or.inl ⟨by rfl, ?_⟩) ?_
  rotate_left
  · intro w; go_simp; try with_reducible rfl
  go_simp
  refine wpAny_take (i := 3) (v := ?_) rfl (by kernel_rfl) (by kernel_rfl) (by kernel_rfl) (fun _ _ _ h => h) (Or.inl ⟨by rfl, ?_⟩) ?_
  rotate_left
  · intro w; go_simp; try with_reducible rfl
  go_simp
  refine wpAny_take (i := 4) (v := ?_) rfl (by kernel_rfl) (by kernel_rfl) (by kernel_rfl) (fun _ _ _ h => h) (Or.inl ⟨by rfl, ?_⟩) ?_
  rotate_left
  · intro w; go_simp; try with_reducible rfl
  go_simp
  refine wpAny_take (i := 5) (v := ?_) rfl (by kernel_rfl) (by kernel_rfl) (by kernel_rfl) (fun _ _ _ h => h) (Or.inl ⟨by rfl, ?_⟩) ?_
  rotate_left
  · intro w; go_simp; try with_reducible rfl
  go_simp
  refine wpAny_take (i := 8) (v := ?_) rfl (by kernel_rfl) (by kernel_rfl) (by kernel_rfl) (fun _ _ _ h => h) (Or.inl ⟨by rfl, ?_⟩) ?_
  rotate_left
  · intro w; go_simp; try with_reducible rfl
  go_simp
  refine wpAny_take (i := 9) (v := ?_) rfl (by kernel_rfl) (by kernel_rfl) (by kernel_rfl) (fun _ _ _ h => h) (Or.inl ⟨by rfl, ?_⟩) ?_
  rotate_left
  · intro w; go_simp; try with_reducible rfl
  go_simp
  refine wpAny_take (i := 10) (v := ?_) rfl (by kernel_rfl) (by kernel_rfl) (by kernel_rfl) (fun _ _ _ h => h) (Or.inl ⟨by rfl, ?_⟩) ?_
  rotate_left
  · intro w; go_simp; try with_reducible rfl
  go_simp
  refine wpAny_take (i := 11) (v := ?_) rfl (by kernel_rfl) (by kernel_rfl) (by kernel_rfl) (fun _ _ _ h => h) (Or.inl ⟨by rfl, ?_⟩) ?_
  rotate_left
  · intro w; go_simp; try with_reducible rfl
  go_simp
  refine wpAny_take (i := 12) (v := ?_) rfl (by kernel_rfl) (by kernel_rfl) (by kernel_rfl) (fun _ _ _ h => h) (Or.inl ⟨by rfl, ?_⟩) ?_
  rotate_left
  · intro w; go_simp; try with_reducible rfl
  go_simp
  refine wpAny_ready (rs := [0, 7]) (by kernel_rfl) (by simp) ?_
  refine AllReady.cons rfl (fun K hK => ?_) ?_
  · go_simp
    refine hK _ _ ?_
    clear hK K
    go_simp
    obtain ⟨W1, hW1⟩ : ∃ W1, W1 = W0.alloc (.cells #[] 39) := ⟨_, rfl⟩
    obtain ⟨g1, hg1⟩ : ∃ g1, g1 = W0.heap.size := ⟨_, rfl⟩
    have HB1 : Hid (Below b1 W0 W1) := by rw [hW1]; exact HB0.out.alloc (HBW0.out _ HB0.out) _
    have HA1 : Hid (W1.ownsRow b1 39 3 (.slice (some ⟨g1, 0, none⟩) 0 0) 0 []) := by rw [hW1, hg1]; exact World.ownsRow_made W0 #[] 0 (HBW0.out _ HB0.out) (by simp [maxLen]) rfl
    rw [← hg1, ← hW1]
    clear hW1 hg1
    refine wpAny_ready (rs := [6, 7]) (by kernel_rfl) (by simp) ?_
    refine AllReady.cons rfl (fun K hK => ?_) ?_
    · refine step_append_src rfl _ _ 23 rfl b1 39 i0 _ 3 24 Tryz.underlying23 HI.out.1 HI.out.2.1 HI.out.2.2.1 HI.out.2.2.2 rfl (by decide) (.slice (some ⟨g1, 0, none⟩) 0 0) 0 [] (by simp [Act.eval]) HA1.out a n cap (flatR (rs.take 60)) (by simp [Act.eval]) (HSR.out _ HB1.out).1 (by unfold maxLen; omega) (by omega) (HBW0.out _ HB1.out) (fun v2 W2 h1 h2 => ?_)
      refine hK _ _ ?_
      clear hK K
      have HA2 : Hid (W2.ownsRow b1 39 3 v2 n (flatR (rs.take 60))) := by
        rw [Nat.zero_add, List.nil_append] at h1
        exact h1
      have HB2 : Hid (Below b1 W0 W2) := HB1.out.grown h2 (HBW0.out _ HB1.out) (fun k hk => (HA1.out.lt k hk).1)
      clear h1 h2
      go_simp
      refine wpAny_ready (rs := [7]) (by kernel_rfl) (by simp) ?_
      refine AllReady.cons rfl (fun K hK => ?_) ?_
      · go_simp
        refine hK _ _ ?_
        clear hK K
        go_simp
        obtain ⟨W3, hW3⟩ : ∃ W3, W3 = W2.alloc (.cells #[] 9) := ⟨_, rfl⟩
        obtain ⟨g3, hg3⟩ : ∃ g3, g3 = W2.heap.size := ⟨_, rfl⟩
        have HB3 : Hid (Below b1 W0 W3) := by rw [hW3]; exact HB2.out.alloc (HBW0.out _ HB2.out) _
        have HV3 : Hid (W3.ownsRow b1 9 1 (.slice (some ⟨g3, 0, none⟩) 0 0) 0 []) := by rw [hW3, hg3]; exact World.ownsRow_made W2 #[] 0 (HBW0.out _ HB2.out) (by simp [maxLen]) rfl
        have HA3 : Hid (W3.ownsRow b1 39 3 v2 n (flatR (rs.take 60))) := by rw [hW3]; exact own_alloc HA2.out _
        rw [← hg3, ← hW3]
        clear hW3 hg3
        refine wpAny_ready (rs := [13]) (by kernel_rfl) (by simp) ?_
        refine AllReady.cons rfl (fun K hK => ?_) ?_
        · refine step_append_src rfl _ _ 35 rfl b1 9 i1 _ 1 16 Tryz.underlying35 HI1.out.1 HI1.out.2.1 HI1.out.2.2.1 HI1.out.2.2.2 rfl (by decide) (.slice (some ⟨g3, 0, none⟩) 0 0) 0 [] (by simp [Act.eval]) HV3.out an m capn (flatN (ns.take 30)) (by simp [Act.eval]) (HSR.out _ HB3.out).2 (by unfold maxLen; omega) (by omega) (HBW0.out _ HB3.out) (fun v4 W4 h1 h2 => ?_)
          refine hK _ _ ?_
          clear hK K
          have HFIN : Hid (CutPost rs ns n m w (.returned (.tuple #[v2, v4])) W4) := by
            refine ⟨v2, v4, rfl, HBE.out _ (HB3.out.grown h2 (HBW0.out _ HB3.out) (fun k hk => (HV3.out.lt k hk).1)), own_base (kept_apt HA3.out h2 (apt_of HA3.out HV3.out (by decide))) (Nat.le_of_eq HB1E.out.symm), ?_, ?_⟩
            · rw [Nat.zero_add, List.nil_append] at h1
              exact own_base h1 (Nat.le_of_eq HB1E.out.symm)
            · exact apt_of (kept_apt HA3.out h2 (apt_of HA3.out HV3.out (by decide))) h1 (by decide)
          clear h1 h2
          go_simp
          refine wpAny_take (i := 14) (v := ?_) rfl (by kernel_rfl) (by kernel_rfl) (by kernel_rfl) (fun _ _ _ h => h) (Or.inl ⟨by rfl, ?_⟩) ?_
          rotate_left
          · intro w; go_simp; try with_reducible rfl
          go_simp
          refine wpAny_take (i := 15) (v := ?_) rfl (by kernel_rfl) (by kernel_rfl) (by kernel_rfl) (fun _ _ _ h => h) (Or.inl ⟨by rfl, ?_⟩) ?_
          rotate_left
          · intro w; go_simp; try with_reducible rfl
          go_simp
          refine wpAny_done (by kernel_rfl) ?_ _
          go_wp2
          go_ret2
          exact HFIN.out
        exact AllReady.nil
      exact AllReady.nil
    refine AllReady.cons rfl (fun K hK => ?_) ?_
    · go_simp
      refine hK _ _ ?_
      clear hK K
      go_simp
      obtain ⟨W5, hW5⟩ : ∃ W5, W5 = W1.alloc (.cells #[] 9) := ⟨_, rfl⟩
      obtain ⟨g5, hg5⟩ : ∃ g5, g5 = W1.heap.size := ⟨_, rfl⟩
      have HB5 : Hid (Below b1 W0 W5) := by rw [hW5]; exact HB1.out.alloc (HBW0.out _ HB1.out) _
      have HV5 : Hid (W5.ownsRow b1 9 1 (.slice (some ⟨g5, 0, none⟩) 0 0) 0 []) := by rw [hW5, hg5]; exact World.ownsRow_made W1 #[] 0 (HBW0.out _ HB1.out) (by simp [maxLen]) rfl
      have HA5 : Hid (W5.ownsRow b1 39 3 (.slice (some ⟨g1, 0, none⟩) 0 0) 0 ([])) := by rw [hW5]; exact own_alloc HA1.out _
      rw [← hg5, ← hW5]
      clear hW5 hg5
      refine wpAny_ready (rs := [6]) (by kernel_rfl) (by simp) ?_
      refine AllReady.cons rfl (fun K hK => ?_) ?_
      · refine step_append_src rfl _ _ 23 rfl b1 39 i0 _ 3 24 Tryz.underlying23 HI.out.1 HI.out.2.1 HI.out.2.2.1 HI.out.2.2.2 rfl (by decide) (.slice (some ⟨g1, 0, none⟩) 0 0) 0 [] (by simp [Act.eval]) HA5.out a n cap (flatR (rs.take 60)) (by simp [Act.eval]) (HSR.out _ HB5.out).1 (by unfold maxLen; omega) (by omega) (HBW0.out _ HB5.out) (fun v6 W6 h1 h2 => ?_)
        refine hK _ _ ?_
        clear hK K
        have HA6 : Hid (W6.ownsRow b1 39 3 v6 n (flatR (rs.take 60))) := by
          rw [Nat.zero_add, List.nil_append] at h1
          exact h1
        have HB6 : Hid (Below b1 W0 W6) := HB5.out.grown h2 (HBW0.out _ HB5.out) (fun k hk => (HA5.out.lt k hk).1)
        have HV6 : Hid (W6.ownsRow b1 9 1 (.slice (some ⟨g5, 0, none⟩) 0 0) 0 []) := kept_apt HV5.out h2 (apt_of HV5.out HA5.out (by decide))
        clear h1 h2
        go_simp
        refine wpAny_ready (rs := [13]) (by kernel_rfl) (by simp) ?_
        refine AllReady.cons rfl (fun K hK => ?_) ?_
        · refine step_append_src rfl _ _ 35 rfl b1 9 i1 _ 1 16 Tryz.underlying35 HI1.out.1 HI1.out.2.1 HI1.out.2.2.1 HI1.out.2.2.2 rfl (by decide) (.slice (some ⟨g5, 0, none⟩) 0 0) 0 [] (by simp [Act.eval]) HV6.out an m capn (flatN (ns.take 30)) (by simp [Act.eval]) (HSR.out _ HB6.out).2 (by unfold maxLen; omega) (by omega) (HBW0.out _ HB6.out) (fun v7 W7 h1 h2 => ?_)
          refine hK _ _ ?_
          clear hK K
          have HFIN : Hid (CutPost rs ns n m w (.returned (.tuple #[v6, v7])) W7) := by
            refine ⟨v6, v7, rfl, HBE.out _ (HB6.out.grown h2 (HBW0.out _ HB6.out) (fun k hk => (HV6.out.lt k hk).1)), own_base (kept_apt HA6.out h2 (apt_of HA6.out HV6.out (by decide))) (Nat.le_of_eq HB1E.out.symm), ?_, ?_⟩
            · rw [Nat.zero_add, List.nil_append] at h1
              exact own_base h1 (Nat.le_of_eq HB1E.out.symm)
            · exact apt_of (kept_apt HA6.out h2 (apt_of HA6.out HV6.out (by decide))) h1 (by decide)
          clear h1 h2
          go_simp
          refine wpAny_take (i := 14) (v := ?_) rfl (by kernel_rfl) (by kernel_rfl) (by kernel_rfl) (fun _ _ _ h => h) (Or.inl ⟨by rfl, ?_⟩) ?_
          rotate_left
          · intro w; go_simp; try with_reducible rfl
          go_simp
          refine wpAny_take (i := 15) (v := ?_) rfl (by kernel_rfl) (by kernel_rfl) (by kernel_rfl) (fun _ _ _ h => h) (Or.inl ⟨by rfl, ?_⟩) ?_
          rotate_left
          · intro w; go_simp; try with_reducible rfl
          go_simp
          refine wpAny_done (by kernel_rfl) ?_ _
          go_wp2
          go_ret2
          exact HFIN.out
        exact AllReady.nil
      exact AllReady.nil
    exact AllReady.nil
  refine AllReady.cons rfl (fun K hK => ?_) ?_
  · go_simp
    refine hK _ _ ?_
    clear hK K
    go_simp
    obtain ⟨W8, hW8⟩ : ∃ W8, W8 = W0.alloc (.cells #[] 9) := ⟨_, rfl⟩
    obtain ⟨g8, hg8⟩ : ∃ g8, g8 = W0.heap.size := ⟨_, rfl⟩
    have HB8 : Hid (Below b1 W0 W8) := by rw [hW8]; exact HB0.out.alloc (HBW0.out _ HB0.out) _
    have HV8 : Hid (W8.ownsRow b1 9 1 (.slice (some ⟨g8, 0, none⟩) 0 0) 0 []) := by rw [hW8, hg8]; exact World.ownsRow_made W0 #[] 0 (HBW0.out _ HB0.out) (by simp [maxLen]) rfl
    rw [← hg8, ← hW8]
    clear hW8 hg8
    refine wpAny_ready (rs := [0]) (by kernel_rfl) (by simp) ?_
    refine AllReady.cons rfl (fun K hK => ?_) ?_
    · go_simp
      refine hK _ _ ?_
      clear hK K
      go_simp
      obtain ⟨W9, hW9⟩ : ∃ W9, W9 = W8.alloc (.cells #[] 39) := ⟨_, rfl⟩
      obtain ⟨g9, hg9⟩ : ∃ g9, g9 = W8.heap.size := ⟨_, rfl⟩
      have HB9 : Hid (Below b1 W0 W9) := by rw [hW9]; exact HB8.out.alloc (HBW0.out _ HB8.out) _
      have HA9 : Hid (W9.ownsRow b1 39 3 (.slice (some ⟨g9, 0, none⟩) 0 0) 0 []) := by rw [hW9, hg9]; exact World.ownsRow_made W8 #[] 0 (HBW0.out _ HB8.out) (by simp [maxLen]) rfl
      have HV9 : Hid (W9.ownsRow b1 9 1 (.slice (some ⟨g8, 0, none⟩) 0 0) 0 []) := by rw [hW9]; exact own_alloc HV8.out _
      rw [← hg9, ← hW9]
      clear hW9 hg9
      refine wpAny_ready (rs := [6]) (by kernel_rfl) (by simp) ?_
      refine AllReady.cons rfl (fun K hK => ?_) ?_
      · refine step_append_src rfl _ _ 23 rfl b1 39 i0 _ 3 24 Tryz.underlying23 HI.out.1 HI.out.2.1 HI.out.2.2.1 HI.out.2.2.2 rfl (by decide) (.slice (some ⟨g9, 0, none⟩) 0 0) 0 [] (by simp [Act.eval]) HA9.out a n cap (flatR (rs.take 60)) (by simp [Act.eval]) (HSR.out _ HB9.out).1 (by unfold maxLen; omega) (by omega) (HBW0.out _ HB9.out) (fun v10 W10 h1 h2 => ?_)
        refine hK _ _ ?_
        clear hK K
        have HA10 : Hid (W10.ownsRow b1 39 3 v10 n (flatR (rs.take 60))) := by
          rw [Nat.zero_add, List.nil_append] at h1
          exact h1
        have HB10 : Hid (Below b1 W0 W10) := HB9.out.grown h2 (HBW0.out _ HB9.out) (fun k hk => (HA9.out.lt k hk).1)
        have HV10 : Hid (W10.ownsRow b1 9 1 (.slice (some ⟨g8, 0, none⟩) 0 0) 0 []) := kept_apt HV9.out h2 (apt_of HV9.out HA9.out (by decide))
        clear h1 h2
        go_simp
        refine wpAny_ready (rs := [13]) (by kernel_rfl) (by simp) ?_
        refine AllReady.cons rfl (fun K hK => ?_) ?_
        · refine step_append_src rfl _ _ 35 rfl b1 9 i1 _ 1 16 Tryz.underlying35 HI1.out.1 HI1.out.2.1 HI1.out.2.2.1 HI1.out.2.2.2 rfl (by decide) (.slice (some ⟨g8, 0, none⟩) 0 0) 0 [] (by simp [Act.eval]) HV10.out an m capn (flatN (ns.take 30)) (by simp [Act.eval]) (HSR.out _ HB10.out).2 (by unfold maxLen; omega) (by omega) (HBW0.out _ HB10.out) (fun v11 W11 h1 h2 => ?_)
          refine hK _ _ ?_
          clear hK K
          have HFIN : Hid (CutPost rs ns n m w (.returned (.tuple #[v10, v11])) W11) := by
            refine ⟨v10, v11, rfl, HBE.out _ (HB10.out.grown h2 (HBW0.out _ HB10.out) (fun k hk => (HV10.out.lt k hk).1)), own_base (kept_apt HA10.out h2 (apt_of HA10.out HV10.out (by decide))) (Nat.le_of_eq HB1E.out.symm), ?_, ?_⟩
            · rw [Nat.zero_add, List.nil_append] at h1
              exact own_base h1 (Nat.le_of_eq HB1E.out.symm)
            · exact apt_of (kept_apt HA10.out h2 (apt_of HA10.out HV10.out (by decide))) h1 (by decide)
          clear h1 h2
          go_simp
          refine wpAny_take (i := 14) (v := ?_) rfl (by kernel_rfl) (by kernel_rfl) (by kernel_rfl) (fun _ _ _ h => h) (Or.inl ⟨by rfl, ?_⟩) ?_
          rotate_left
          · intro w; go_simp; try with_reducible rfl
          go_simp
          refine wpAny_take (i := 15) (v := ?_) rfl (by kernel_rfl) (by kernel_rfl) (by kernel_rfl) (fun _ _ _ h => h) (Or.inl ⟨by rfl, ?_⟩) ?_
          rotate_left
          · intro w; go_simp; try with_reducible rfl
          go_simp
          refine wpAny_done (by kernel_rfl) ?_ _
          go_wp2
          go_ret2
          exact HFIN.out
        exact AllReady.nil
      exact AllReady.nil
    exact AllReady.nil
  exact AllReady.nil
end Go.Proofs.YtgncpchgmjacdaaGreatDoor
