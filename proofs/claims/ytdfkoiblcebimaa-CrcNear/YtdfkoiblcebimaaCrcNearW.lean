/- The walk of CrcNear: whatever the bytes, the place and the number: true. -/
import Derived.Test.YtdfkoiblcebimaaCrcO
namespace Go.Proofs.Ytdfkoiblcebimaa
open Go.RowKit
set_option linter.unusedVariables false

theorem and_65535 (n : Int) : bits .and .i64 n 65535 = n % 65536 := and_low n 65535 16 (by decide) (by decide)

set_option maxRecDepth 100000 in
set_option maxHeartbeats 4000000 in
theorem crcNear_walk (a0 : Option Addr) (len0 cap0 n : Nat) (xs : List Int) (at_ : Int) (X : Nat) (w : World) (hc0 : len0 ≤ cap0) (hn : n = min len0 2000) (hr : Rd .u8 w a0 n xs) (hb : ∀ y ∈ xs, 0 ≤ y ∧ y ≤ 255) (hz : a0 = none → cap0 = 0) (hX : X < 4294967296) :
    Calls Try.prog 5 #[.slice a0 len0 cap0, .int .i64 at_, .int .u32 X] w fun e w' => e = .returned (.bool true) ∧ Below w.heap.size w w' := by
  obtain ⟨i0, hi, hzz0, hzz1, hzz2⟩ := info_parts info_u8
  have HR : Hid (Rd .u8 w a0 n xs) := hr
  have HY : Hid (∀ y ∈ xs, 0 ≤ y ∧ y ≤ 255) := hb
  have HL : Hid (xs.length = n) := hr.1
  have HZ : Hid (a0 = none → cap0 = 0) := hz
  have hmin := min_run len0 n 2000 (by omega)
  have hcut := cut_bytes a0 len0 cap0 n (by omega)
  have hn2 : n ≤ 2000 := by omega
  have hand := and_65535 at_
  clear hr hb hz hn
  go_enter Try.func5, Try.ntmps5
  go_wp2_with fail
  refine (shown_any _).mono ?_
  rintro e w1 ⟨rfl, hb1⟩
  have HB1 : Hid (Below w.heap.size w w1) := hb1
  clear hb1
  go_wp2_with (at_builtin; refine wpList_append_rd rfl (.tmp 14) (.tmp 19) 22 rfl w1.heap.size 5 i0 (.int .u8 0) 1 Try.underlying22 hi hzz0 hzz1 hzz2 rfl _ 0 [] rfl (own_none (w := w1) w1.heap.size 5 (Nat.le_refl _) _ rfl) a0 n cap0 .u8 xs rfl ((HR.out.later HB1.out).later ((Below.refl _ w1).alloc (Nat.le_refl _) _)) HZ.out ?h63 ?hby ?hbase ?_)
  case h63 => unfold maxLen; omega
  case hby => omega
  case hbase => simp
  intro v2 w2 hown2 hgrow2
  have HG2 : Hid (Below w1.heap.size w1 w2) := ((Below.refl _ w1).alloc (Nat.le_refl _) _).grown hgrow2 (by simp) (fun k hk => ((own_none (w := w1) w1.heap.size 5 (Nat.le_refl _) _ rfl).lt k hk).1)
  have HB2 : Hid (Below w.heap.size w w2) := HB1.out.trans (HG2.out.mono HB1.out.size)
  have hown2' : w2.ownsRow w1.heap.size 5 1 v2 n (xs.map (Value.int .u8)) := by simpa using hown2
  obtain ⟨a2, cap2, hv2, hc2, hm2, hf2⟩ := own_form hown2'
  subst hv2
  have HO2 : Hid (w2.ownsRow w1.heap.size 5 1 (.slice a2 n cap2) n (xs.map (Value.int .u8))) := hown2'
  obtain ⟨a2', cap2', hv2', _, _, hr2⟩ := rd_own hown2'
  cases hv2'
  have HR2 : Hid (Rd .u8 w2 a2 n xs) := hr2
  have HF2 : Hid (0 < n → ∃ g, a2 = some ⟨g, 0, none⟩ ∧ w1.heap.size ≤ g ∧ g < w2.heap.size) := hf2
  clear hown2 hown2' hgrow2 hr2 hf2 hmin hcut
  by_cases hn0 : n = 0
  · subst hn0
    go_wp2
    go_ret
    exact ⟨rfl, HB2.out⟩
  obtain ⟨g, ha2, hg1, hg2⟩ := HF2.out (by omega)
  subst ha2
  obtain ⟨k, hk⟩ : ∃ k : Nat, (k : Int) = at_ % 65536 % (n : Int) := ⟨(at_ % 65536 % (n : Int)).toNat, Int.toNat_of_nonneg (Int.emod_nonneg _ (by omega))⟩
  have hkn : k < n := by have := Int.emod_lt_of_pos (at_ % 65536) (show (0 : Int) < (n : Int) by omega); omega
  have hk' := hk.symm
  have hne : (n : Int) ≠ 0 := by omega
  clear hk
  go_wp2_with fail
  refine (sum_any xs _ n cap2 _ HY.out HR2.out (by omega)).mono ?_
  rintro e w3 ⟨rfl, hb3⟩
  have HG3 : Hid (Below w1.heap.size w1 w3) := HG2.out.trans (hb3.mono HG2.out.size)
  have HO3 : Hid (w3.ownsRow w1.heap.size 5 1 (.slice (some ⟨g, 0, none⟩) n cap2) n (xs.map (Value.int .u8))) := own_later HO2.out hb3
  obtain ⟨U, hU⟩ : ∃ U, U = up 0 xs := ⟨_, rfl⟩
  rw [← hU]
  have HU : Hid (U = up 0 xs) := hU
  clear hb3 hU HF2 HO2 HR2
  go_wp2
  simp only [hk']
  clear hk' hand hne
  go_loopw [10, 11] (fun x10 x11 wr => ∃ i : Nat, i ≤ 4 ∧ k + i ≤ n ∧ x11 = .int .i64 i ∧ x10 = .bool (tn X i) ∧ wr.ownsRow w1.heap.size 5 1 (.slice (some ⟨g, 0, none⟩) n cap2) n (((yr (xs.map Int.toNat) k i X).map Int.ofNat).map (Value.int .u8)) ∧ Below w1.heap.size w1 wr) (fun _ x11 _ => 4 - (intOf x11).toNat)
  case atStart =>
    refine ⟨0, by omega, by omega, rfl, rfl, ?_, HG3.out⟩
    rw [yr_none, back_nat xs HY.out]
    exact HO3.out
  case round =>
    obtain ⟨i, hi4, hkin, hx11, hx10, hown, hbel⟩ := hrel
    obtain ⟨t, ht⟩ : ∃ t, t = tn X i := ⟨_, rfl⟩
    rw [← ht] at hx10
    have HT : Hid (t = tn X i) := ht
    subst hx10 hx11
    have HB : Hid (Below w1.heap.size w1 wr) := hbel
    clear ht hbel
    by_cases hlt : i < 4 ∧ k + i < n
    · obtain ⟨hlt1, hlt2⟩ := hlt
      have HO : Hid (wr.ownsRow w1.heap.size 5 1 (.slice (some ⟨g, 0, none⟩) n cap2) n (((yr (xs.map Int.toNat) k i X).map Int.ofNat).map (Value.int .u8))) := hown
      have hhere := yr_here (xs.map Int.toNat) k i X (by have := HL.out; simp; omega)
      have hnext := yr_next (xs.map Int.toNat) k i X (by have := HL.out; simp; omega)
      obtain ⟨y, hy⟩ : ∃ y, y = (xs.map Int.toNat).getD (k + i) 0 := ⟨_, rfl⟩
      rw [← hy] at hhere hnext
      have hyl : y < 256 := by
        rw [hy]
        exact nat_bytes HY.out _ (getD_mem _ _ (by have := HL.out; simp; omega))
      obtain ⟨c, hc⟩ : ∃ c, c = db X i := ⟨_, rfl⟩
      have hcl : c < 256 := by rw [hc]; exact db_lt _ _
      have hcd : (X : Int) / 2 ^ (8 * i) % 256 = (c : Int) := by rw [hc]; unfold db; simp
      have HTN : Hid (tn X (i + 1) = (t || c != 0)) := by show tn X (i + 1) = _; rw [tn_next, ← HT.out, hc]
      have hx := u8_xor_nat y c hyl hcl
      rw [← hc] at hnext
      obtain ⟨z, hz⟩ : ∃ z, z = y ^^^ c := ⟨_, rfl⟩
      rw [← hz] at hx hnext
      have hcell := HO.out.cellAt (k + i) (by omega)
      rw [List.getElem?_map, List.getElem?_map, hhere] at hcell
      have hfr := HO.out.frozenAt (k + i)
      have hcell' : wr.cell? ⟨g, k + i, none⟩ = some (.int .u8 y) := hcell
      have HS : Hid ((wr.setCell ⟨g, k + i, none⟩ (.int .u8 z)).ownsRow w1.heap.size 5 1 (.slice (some ⟨g, 0, none⟩) n cap2) n (((yr (xs.map Int.toNat) k (i + 1) X).map Int.ofNat).map (Value.int .u8))) := by
        have := (HO.out.stored (k + i) (.int .u8 z)).1
        rw [← hnext, List.map_set, List.map_set]
        exact this
      clear hcell hy hc hz hhere hnext hown
      cases t
      · go_wp2
        go_roundw
        case rel => exact ⟨i + 1, by omega, by omega, by go_num, by rw [HTN.out, Bool.false_or]; congr 1; rw [Bool.eq_iff_iff]; simp, HS.out, HB.out.setCell hg1 _⟩
        case measure => simp [intOf]; omega
      · go_wp2
        go_roundw
        case rel => exact ⟨i + 1, by omega, by omega, by go_num, by rw [HTN.out]; rfl, HS.out, HB.out.setCell hg1 _⟩
        case measure => simp [intOf]; omega
    · have HBW : Hid (Below w.heap.size w wr) := HB1.out.trans (HB.out.mono HB1.out.size)
      have hup := up_near xs k i X (by have := HL.out; omega) hi4 HY.out
      rw [← HU.out, ← HT.out] at hup
      obtain ⟨_, _, hv, _, _, hr3⟩ := rd_own hown
      cases hv
      obtain ⟨ys, hys⟩ : ∃ ys, ys = (yr (xs.map Int.toNat) k i X).map Int.ofNat := ⟨_, rfl⟩
      have hyy : ∀ y ∈ ys, 0 ≤ y ∧ y ≤ 255 := by
        intro y hy
        rw [hys] at hy
        simp at hy
        obtain ⟨c, hc, rfl⟩ := hy
        have := yr_rng (xs.map Int.toNat) k i X (nat_bytes HY.out) c hc
        omega
      rw [← hys] at hup hr3
      have HYS : Hid (∀ y ∈ ys, 0 ≤ y ∧ y ≤ 255) := hyy
      have HR3 : Hid (Rd .u8 wr (some ⟨g, 0, none⟩) n ys) := hr3
      obtain ⟨V, hV⟩ : ∃ V, V = up 0 ys := ⟨_, rfl⟩
      rw [← hV] at hup
      have HV : Hid (up 0 ys = V) := hV.symm
      have HUP : Hid (V = U ↔ t = false) := hup
      clear hown hr3 hys hyy hup hV
      rcases (by omega : ¬ i < 4 ∨ (i < 4 ∧ ¬ k + i < n)) with h4 | ⟨h4, h5⟩
      all_goals
        clear hlt
        go_wp2_with fail
        refine (sum_any ys _ n _ _ HYS.out HR3.out (by omega)).mono ?_
        rw [HV.out]
        rintro e w5 ⟨rfl, hb5⟩
        have HW5 : Hid (Below w.heap.size w w5) := HBW.out.trans (hb5.mono HBW.out.size)
        clear hb5
        cases t
        · obtain rfl := HUP.out.2 rfl
          go_wp2
          go_ret
          exact ⟨rfl, HW5.out⟩
        · have hne : ((V : Int) == (U : Int)) = false := beq_eq_false_iff_ne.2 fun e => by
            have := HUP.out.1 (by omega)
            cases this
          go_wp2
          go_ret
          exact ⟨ret_bool (by simp [bne, hne]), HW5.out⟩
end Go.Proofs.Ytdfkoiblcebimaa
