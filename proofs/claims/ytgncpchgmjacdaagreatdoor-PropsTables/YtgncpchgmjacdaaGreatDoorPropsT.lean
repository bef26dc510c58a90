/- The walks of meeting, placed: whether two neighbours meet; the ranges with the places of their classes. -/
import Derived.Test.YtgncpchgmjacdaaGreatDoorPropsS
import Derived.Test.YtgncpchgmjacdaaGreatDoorPropsR
namespace Go.Proofs.YtgncpchgmjacdaaGreatDoor
open Go.RowKit
set_option linter.unusedVariables false

/-- Do two neighbours meet? -/
def MtOf (ds : List Rg) (b : Bool) : Prop := (b = true → ∃ i, i + 1 < ds.length ∧ sdR (ds.getD i (0, 0, [])) (ds.getD (i + 1) (0, 0, [])) = 0) ∧ (b = false → ∀ i, i + 1 < ds.length → sdR (ds.getD i (0, 0, [])) (ds.getD (i + 1) (0, 0, [])) ≠ 0)
def MtPost (ds : List Rg) (w : World) (e : Ending) (w' : World) : Prop := ∃ b, MtOf ds b ∧ e = .returned (.bool b) ∧ Below w.heap.size w w'

set_option maxHeartbeats 2000000 in
theorem meeting_any (ds : List Rg) (a : Option Addr) (len cap : Nat) (w : World) (hrd : RdR w a len ds) (hm : len ≤ 4611686018427387903) :
    Calls Tryz.prog 53 #[.slice a len cap] w (MtPost ds w) := by
  have HD : Hid (RdR w a len ds) := hrd
  have HL : Hid (ds.length = len) := hrd.1
  have mixed : Tryz.prog.follows .mixedOrders = true := by kernel_rfl
  clear hrd
  go_enter Tryz.func53, Tryz.ntmps53
  go_wp2
  go_loopw [3] (fun x3 wr => ∃ k : Nat, x3 = .int .i64 ((k : Int) + 1) ∧ k ≤ len ∧ (∀ i, i < k → i + 1 < ds.length → sdR (ds.getD i (0, 0, [])) (ds.getD (i + 1) (0, 0, [])) ≠ 0) ∧ Below w.heap.size w wr) (fun x3 _ => len + 1 - (intOf x3).toNat)
  case atStart => exact ⟨0, rfl, by omega, fun i hi => absurd hi (by omega), Below.refl _ _⟩
  case round =>
    obtain ⟨k, hx3, hk, hat, hbel⟩ := hrel
    subst hx3
    have HA : Hid (∀ i, i < k → i + 1 < ds.length → sdR (ds.getD i (0, 0, [])) (ds.getD (i + 1) (0, 0, [])) ≠ 0) := hat
    have HB : Hid (Below w.heap.size w wr) := hbel
    clear hat hbel
    by_cases hlt : k + 1 < len
    · obtain ⟨b, off, hab, c0, c1, c2⟩ := (HD.out.later HB.out).at k (by omega)
      obtain ⟨b2, off2, hab2, e0, e1, e2⟩ := (HD.out.later HB.out).at (k + 1) hlt
      subst hab
      cases hab2
      obtain ⟨x, hx⟩ : ∃ x, x = ds.getD k (0, 0, []) := ⟨_, rfl⟩
      obtain ⟨y, hy⟩ : ∃ y, y = ds.getD (k + 1) (0, 0, []) := ⟨_, rfl⟩
      rw [← hx] at c0 c1 c2
      rw [← hy] at e0 e1 e2
      have HX : Hid (x = ds.getD k (0, 0, []) ∧ y = ds.getD (k + 1) (0, 0, [])) := ⟨hx, hy⟩
      clear hx hy
      obtain ⟨x1, x2, x3⟩ := x
      obtain ⟨y1, y2, y3⟩ := y
      simp only [] at c0 c1 c2 e0 e1 e2
      obtain ⟨sx, hsx⟩ : ∃ sx, sx = strOfNums x3 := ⟨_, rfl⟩
      obtain ⟨sy, hsy⟩ : ∃ sy, sy = strOfNums y3 := ⟨_, rfl⟩
      rw [← hsx] at c2
      rw [← hsy] at e2
      obtain ⟨sv, hsv⟩ : ∃ sv, sv = sdR (x1, x2, x3) (y1, y2, y3) := ⟨_, rfl⟩
      have HSD : Hid (∀ W : World, Calls Tryz.prog 71 #[.agg #[.int .i32 x1, .int .i32 x2, .string sx], .agg #[.int .i32 y1, .int .i32 y2, .string sy]] W fun e w' => e = .returned (.int .i64 sv) ∧ ∃ q os', w' = Sort.grow (W.drewN q) os') := by
        intro W
        rw [hsx, hsy, hsv]
        exact side_grow (x1, x2, x3) (y1, y2, y3) W
      have HSV : Hid (sv = sdR (ds.getD k (0, 0, [])) (ds.getD (k + 1) (0, 0, []))) := by show sv = _; rw [hsv, HX.out.1, HX.out.2]
      have d0 := cell_g c0; have d1 := cell_g c1; have d2 := cell_g c2
      have m0 := cell_g e0; have m1 := cell_g e1; have m2 := cell_g e2
      have HNX : Hid (∀ n os, Below w.heap.size w (Sort.grow (wr.drewN n) os)) := fun n os => HB.out.trans ((below_grow wr n os).mono HB.out.size)
      clear c0 c1 c2 e0 e1 e2 hsx hsy hsv
      have hi1 : ((k : Int) + 1).toNat = k + 1 := by omega
      have hi2 : (0 : Int) ≤ (k : Int) + 1 := by omega
      have hi3 : (k : Int) + 1 < (len : Int) := by omega
      have hw : IntKind.i64.wrap (k : Int) = (k : Int) := by rw [IntKind.wrap_i64]; omega
      have hi4 : (k : Int) < (len : Int) := by omega
      by_cases hz : sv = 0
      · have hmt : ∃ i, i + 1 < ds.length ∧ sdR (ds.getD i (0, 0, [])) (ds.getD (i + 1) (0, 0, [])) = 0 := ⟨k, by rw [HL.out]; exact hlt, by rw [← HSV.out]; exact hz⟩
        have HMT : Hid (MtOf ds true) := ⟨fun _ => hmt, fun h => (by cases h)⟩
        clear hmt
        go_upto_region 4 with fail
        go_quiet_grown (first | (go_at_call 71; refine Calls.grown_of (HSD.out _)))
        go_wp2
        go_ret
        exact ⟨true, HMT.out, rfl, HNX.out _ _⟩
      · have HZ : Hid (sv ≠ 0) := hz
        go_upto_region 4 with fail
        go_quiet_grown (first | (go_at_call 71; refine Calls.grown_of (HSD.out _)))
        go_wp2
        go_roundw
        case rel =>
          refine ⟨k + 1, by go_num, by omega, fun i hi hil => ?_, HNX.out _ _⟩
          rcases Nat.lt_or_ge i k with h | h
          · exact HA.out i h hil
          · rw [show i = k by omega, ← HSV.out]; exact HZ.out
        case measure => simp [intOf]; omega
    · have HMT : Hid (MtOf ds false) := ⟨fun h => (by cases h), fun _ i hi => HA.out i (by rw [HL.out] at hi; omega) hi⟩
      have hi3 : ¬ ((k : Int) + 1 < (len : Int)) := by omega
      go_wp2
      go_ret
      exact ⟨false, HMT.out, rfl, HB.out⟩

/-- A span: its first and last character, its class's place. -/
abbrev Sp := Int × Int × Int
def encS (x : Sp) : List Value := [.int .i32 x.1, .int .i32 x.2.1, .int .i64 x.2.2]
def flatS (ss : List Sp) : List Value := ss.flatMap encS
theorem flatS_len : (ss : List Sp) → (flatS ss).length = 3 * ss.length
  | [] => rfl
  | x :: r => by
    have e : flatS (x :: r) = encS x ++ flatS r := by simp [flatS]
    rw [e, List.length_append, flatS_len r, List.length_cons]
    show 3 + _ = _
    omega
theorem flatS_at : (ss : List Sp) → (i : Nat) → i < ss.length → ∀ j, j < 3 → (flatS ss)[3 * i + j]? = (encS (ss.getD i (0, 0, 0)))[j]?
  | [], i, h, _, _ => by simp at h
  | x :: r, 0, _, j, hj => by
    have e : flatS (x :: r) = encS x ++ flatS r := by simp [flatS]
    rw [e, List.getElem?_append_left (by show 3 * 0 + j < 3; omega)]
    simp
  | x :: r, i + 1, h, j, hj => by
    have e : flatS (x :: r) = encS x ++ flatS r := by simp [flatS]
    rw [e, List.getElem?_append_right (by show 3 ≤ _; omega), show 3 * (i + 1) + j - (encS x).length = 3 * i + j by show 3 * (i + 1) + j - 3 = _; omega, flatS_at r i (by simpa using h) j hj]
    simp
theorem flatS_app (a b : List Sp) : flatS (a ++ b) = flatS a ++ flatS b := by simp [flatS]
theorem encS_one (x : Sp) : ∀ v ∈ encS x, v.oneCell' = true := by
  intro v hv
  simp [encS] at hv
  rcases hv with rfl | rfl | rfl <;> rfl
theorem info_S : (Tryz.prog.info? 109).map (fun i => (i.zero, i.size, i.bytes)) = some (some (.agg #[.int .i32 0, .int .i32 0, .int .i64 0]), 3, 16) := by kernel_rfl
/-- A range with the place of its class. -/
def spOf (ns : List (List Int)) (r : Rg) : Sp := (r.1, r.2.1, ixOf r.2.2 ns)
theorem news_S {w : World} {vb : Nat} {x : Sp} {t : TypeId} (h : w.heap[vb]? = some (.cells (encS x).toArray t)) : ∀ j u, (encS x)[j]? = some u → w.cell? ((⟨vb, 0, none⟩ : Addr).add j) = some u := by
  intro j u hu
  rw [add_lit, Nat.zero_add, cell_of_row w vb j _ _ _ h]
  simpa using hu
/-- Ranges whose class names are rows of bytes. -/
def RgS (ds : List Rg) : Prop := ∀ r ∈ ds, ∀ y ∈ r.2.2, 0 ≤ y ∧ y ≤ 255
theorem ix_neg (s : List Int) (ns : List (List Int)) (h : ixOf s ns < 0) : s ∉ ns := by
  rcases ix_cases s ns with ⟨_, h2⟩ | ⟨i, _, e, _, _⟩
  · exact h2
  · omega
theorem ix_pos (s : List Int) (ns : List (List Int)) (h : ¬ ixOf s ns < 0) : s ∈ ns ∧ ixOf s ns < ns.length := by
  rcases ix_cases s ns with ⟨e, _⟩ | ⟨i, hi, e, h3, _⟩
  · omega
  · exact ⟨by rw [← h3]; simp [hi], by omega⟩

set_option maxHeartbeats 2000000 in
theorem placed_any (ds : List Rg) (ns : List (List Int)) (a a2 : Option Addr) (len cap len2 cap2 : Nat) (w : World) (hrd : RdR w a len ds) (hrs : RgS ds) (hn : Nms ns) (hrd2 : RdS w a2 len2 ns) (hm : len ≤ 100000000) (hm2 : len2 ≤ 9223372036854775807) :
    Calls Tryz.prog 54 #[.slice a len cap, .slice a2 len2 cap2] w fun e w' => Below w.heap.size w w' ∧
      (((∃ r ∈ ds, r.2.2 ∉ ns) ∧ e = .returned (.tuple #[.slice none 0 0, .bool false])) ∨ ((∀ r ∈ ds, r.2.2 ∈ ns) ∧ ∃ v, e = .returned (.tuple #[v, .bool true]) ∧ w'.ownsRow w.heap.size 109 3 v ds.length (flatS (ds.map (spOf ns))))) := by
  have HD : Hid (RdR w a len ds) := hrd
  have HL : Hid (ds.length = len) := hrd.1
  have HRS : Hid (RgS ds) := hrs
  have HN : Hid (Nms ns) := hn
  have HD2 : Hid (RdS w a2 len2 ns) := hrd2
  have HM2 : Hid (len2 ≤ 9223372036854775807) := hm2
  have HM : Hid (len ≤ 100000000) := hm
  obtain ⟨i0, hi, hz0, hz1, hz2⟩ := info_parts info_S
  have HI : Hid (Tryz.prog.info? 109 = some i0 ∧ i0.zero = some (.agg #[.int .i32 0, .int .i32 0, .int .i64 0]) ∧ i0.size = 3 ∧ i0.bytes = 16) := ⟨hi, hz0, hz1, hz2⟩
  clear hrd hrs hn hrd2 hm2 hm hi hz0 hz1 hz2
  go_enter Tryz.func54, Tryz.ntmps54
  go_wp2_with (at_make; refine wpList_make_own _ rfl _ _ 101 rfl w.heap.size 109 i0 _ 3 Tryz.underlying101 HI.out.1 HI.out.2.1 HI.out.2.2.1 .i64 .i64 _ len rfl rfl rfl (by rw [HI.out.2.2.2]; have := HM.out; omega) (by have := HM.out; unfold maxLen; omega) (Nat.le_refl _) (fun w1 h1 h2 => ?_); have HO1 : Hid (w1.ownsRow w.heap.size 109 3 (.slice (some ⟨w.heap.size, 0, none⟩) 0 len) 0 []) := h1; have HB1 : Hid (Below w.heap.size w w1) := (Below.refl _ w).grown h2 (Nat.le_refl _) (fun k hk => by cases hk); clear h1 h2)
  go_loopw [6, 15] (fun x6 x15 wr => ∃ k : Nat, k ≤ len ∧ x15 = .int .i64 k ∧ (∀ r ∈ ds.take k, r.2.2 ∈ ns) ∧ wr.ownsRow w.heap.size 109 3 x6 k (flatS ((ds.map (spOf ns)).take k)) ∧ Below w.heap.size w wr) (fun _ x15 _ => len - (intOf x15).toNat)
  case atStart => exact ⟨0, by omega, rfl, by simp, by rw [List.take_zero]; exact HO1.out, HB1.out⟩
  case round =>
    obtain ⟨k, hk, hx15, hat, hown, hbel⟩ := hrel
    subst hx15
    have HA : Hid (∀ r ∈ ds.take k, r.2.2 ∈ ns) := hat
    have HO : Hid (wr.ownsRow w.heap.size 109 3 u6 k (flatS ((ds.map (spOf ns)).take k))) := hown
    have HB : Hid (Below w.heap.size w wr) := hbel
    clear hat hown hbel
    by_cases hlt : k < len
    · obtain ⟨b, off, hab, c0, c1, c2⟩ := (HD.out.later HB.out).at k hlt
      subst hab
      obtain ⟨x, hx⟩ : ∃ x, x = ds.getD k (0, 0, []) := ⟨_, rfl⟩
      rw [← hx] at c0 c1 c2
      have hxm : x ∈ ds := by rw [hx]; simp [show k < ds.length by rw [HL.out]; exact hlt]
      have HX : Hid (x = ds.getD k (0, 0, [])) := hx
      have HXM : Hid (x ∈ ds) := hxm
      obtain ⟨x1, x2, x3⟩ := x
      simp only [] at c0 c1 c2
      obtain ⟨sx, hsx⟩ : ∃ sx, sx = strOfNums x3 := ⟨_, rfl⟩
      rw [← hsx] at c2
      obtain ⟨iv, hiv⟩ : ∃ iv, iv = ixOf x3 ns := ⟨_, rfl⟩
      have HIV : Hid (iv = ixOf x3 ns) := hiv
      have HIX : Hid (∀ W : World, Below w.heap.size w W → Calls Tryz.prog 84 #[.slice a2 len2 cap2, .string sx] W fun e w' => e = .returned (.int .i64 iv) ∧ w' = W) := by
        intro W hW
        rw [hsx, hiv]
        exact index_any ns x3 a2 len2 cap2 W HN.out (HRS.out _ hxm) (HD2.out.later hW) HM2.out
      clear hx hxm hsx hiv
      go_wp2_with fail
      refine (HIX.out _ (HB.out.alloc HB.out.size _)).mono ?_
      rintro e w' ⟨rfl, hw'⟩
      subst hw'
      by_cases hneg : iv < 0
      · have HNO : Hid ((x1, x2, x3).2.2 ∉ ns) := ix_neg x3 ns (by rw [← HIV.out]; exact hneg)
        have HBA : Hid (∀ o, Below w.heap.size w (wr.alloc o)) := fun o => HB.out.alloc HB.out.size o
        go_wp2
        go_ret2
        exact ⟨HBA.out _, .inl ⟨⟨_, HXM.out, HNO.out⟩, rfl⟩⟩
      · obtain ⟨hin, hil⟩ := ix_pos x3 ns (by rw [← HIV.out]; exact hneg)
        have HIN : Hid (x3 ∈ ns) := hin
        have HNEW : Hid (∀ o o2 : Obj, o2 = .cells (encS (x1, x2, iv)).toArray 109 → ∀ j u, (encS (x1, x2, iv))[j]? = some u → ((wr.alloc o).alloc o2).cell? ((⟨wr.heap.size + 1, 0, none⟩ : Addr).add j) = some u) := by
          intro o o2 ho j u hu
          refine news_S (w := (wr.alloc o).alloc o2) (vb := wr.heap.size + 1) (x := (x1, x2, iv)) (t := 109) ?_ j u hu
          rw [ho]
          have := heap_alloc_new (wr.alloc o) (.cells (encS (x1, x2, iv)).toArray 109)
          simpa using this
        have HOA : Hid (∀ o o2 : Obj, ((wr.alloc o).alloc o2).ownsRow w.heap.size 109 3 u6 k (flatS ((ds.map (spOf ns)).take k))) := fun o o2 =>
          HO.out.kept (row := none) ⟨rfl, rfl, rfl, by simp; omega, fun j hj _ => by rw [Below.heap_alloc _ _ _ (by simp; omega), Below.heap_alloc _ _ _ hj]⟩ (Classical.em _)
        have HLT : Hid (∀ j, u6.ownBlock = some j → w.heap.size ≤ j ∧ j < wr.heap.size) := HO.out.lt
        have HFL : Hid (flatS ((ds.map (spOf ns)).take k) ++ encS (x1, x2, iv) = flatS ((ds.map (spOf ns)).take (k + 1))) := by
          show _ = flatS ((ds.map (spOf ns)).take (k + 1))
          have hkl : k < (ds.map (spOf ns)).length := by simp; rw [HL.out]; exact hlt
          rw [List.take_add_one, List.getElem?_eq_getElem hkl, flatS_app]
          congr 1
          have e1 : (ds.map (spOf ns))[k] = (x1, x2, iv) := by
            have e2 : ds[k]'(by simpa using hkl) = (x1, x2, x3) := by rw [HX.out]; simp [show k < ds.length by rw [HL.out]; exact hlt]
            rw [List.getElem_map, e2, HIV.out]
            rfl
          rw [e1]
          simp [flatS]
        have HAN : Hid (∀ r ∈ ds.take (k + 1), r.2.2 ∈ ns) := by
          intro r hr
          have hkl : k < ds.length := by rw [HL.out]; exact hlt
          rw [List.take_add_one, List.getElem?_eq_getElem hkl, List.mem_append] at hr
          rcases hr with hr | hr
          · exact HA.out r hr
          · have e2 : ds[k] = (x1, x2, x3) := by rw [HX.out]; simp [hkl]
            simp only [Option.toList, List.mem_singleton] at hr
            rw [hr, e2]
            exact HIN.out
        have HFIN : Hid (∀ (o o2 : Obj) v' w', w'.ownsRow w.heap.size 109 3 v' (k + 1) (flatS ((ds.map (spOf ns)).take k) ++ encS (x1, x2, iv)) → ((wr.alloc o).alloc o2).grownBy w' u6.ownBlock → w'.ownsRow w.heap.size 109 3 v' (k + 1) (flatS ((ds.map (spOf ns)).take (k + 1))) ∧ Below w.heap.size w w') := by
          intro o o2 v' w' h1 h2
          rw [HFL.out] at h1
          exact ⟨h1, ((HB.out.alloc HB.out.size o).alloc (by simp; have := HB.out.size; omega) o2).grown h2 (by simp; have := HB.out.size; omega) (fun j hj => (HLT.out j hj).1)⟩
        have hh := HM.out
        clear hin hil
        go_wp2_with (at_builtin; refine wpList_append_own _ rfl _ _ 101 rfl w.heap.size 109 i0 _ 3 16 Tryz.underlying101 HI.out.1 HI.out.2.1 HI.out.2.2.1 HI.out.2.2.2 rfl (by decide) _ k (flatS ((ds.map (spOf ns)).take k)) rfl (HOA.out _ _) ⟨wr.heap.size + 1, 0, none⟩ 1 1 (encS (x1, x2, iv)) rfl rfl (HNEW.out _ _ rfl) (encS_one _) (by have := HM.out; unfold maxLen; omega) (by have := HM.out; omega) (by simp; have := HB.out.size; omega) (fun v' w' h1 h2 _ => ?_); have HF := HFIN.out _ _ v' w' h1 h2; have HFF : Hid _ := HF; clear HF h1 h2)
        go_roundw
        case rel => exact ⟨k + 1, by omega, by go_num, HAN.out, HFF.out.1, HFF.out.2⟩
        case measure => simp [intOf]; omega
    · obtain rfl : k = len := by omega
      have HT : Hid (ds.take k = ds ∧ (ds.map (spOf ns)).take k = ds.map (spOf ns)) := ⟨List.take_of_length_le (by rw [HL.out]; omega), List.take_of_length_le (by simp; rw [HL.out]; omega)⟩
      go_wp2
      go_ret2
      exact ⟨HB.out, .inr ⟨by have := HA.out; rw [HT.out.1] at this; exact this, _, rfl, by have := HO.out; rw [HT.out.2] at this; rw [HL.out]; exact this⟩⟩
end Go.Proofs.YtgncpchgmjacdaaGreatDoor
