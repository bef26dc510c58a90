/- The walk of PackGets: whatever the bytes: true. -/
import Derived.Test.YtefikaldfbidkaaPackS
namespace Go.Proofs.Ytefikaldfbidkaa
open Go.RowKit
set_option linter.unusedVariables false

set_option maxHeartbeats 4000000 in
theorem packGets_walk (a0 : Option Addr) (len0 cap0 n0 : Nat) (zs : List Int) (w : World)
    (hc0 : len0 ≤ cap0) (hn0 : n0 = min len0 2000) (hr0 : Rd .u8 w a0 n0 zs) (hb0 : ∀ y ∈ zs, 0 ≤ y ∧ y ≤ 255) (hz0 : a0 = none → cap0 = 0) :
    Calls Try.prog 4 #[.slice a0 len0 cap0] w fun e w' => e = .returned (.bool true) ∧ Below w.heap.size w w' := by
  obtain ⟨i0, hi, hzz0, hzz1, hzz2⟩ := info_parts info_u8
  have hmin0 := min_run len0 n0 2000 (by omega)
  have hcut0 := cut_bytes a0 len0 cap0 n0 (by omega)
  have hn2000 : n0 ≤ 2000 := by omega
  have HR0 : Hid (Rd .u8 w a0 n0 zs) := hr0
  have HY0 : Hid (∀ y ∈ zs, 0 ≤ y ∧ y ≤ 255) := hb0
  have HZ0 : Hid (a0 = none → cap0 = 0) := hz0
  have HL0 : Hid (zs.length = n0) := hr0.1
  obtain ⟨⟨g1, g2, g3⟩, hG⟩ : ∃ G, G = ga zs := ⟨_, rfl⟩
  have HG : Hid ((g1, g2, g3) = ga zs) := hG
  obtain ⟨⟨t1, t2, t3⟩, hT⟩ : ∃ T, T = ta zs := ⟨_, rfl⟩
  have HT : Hid ((t1, t2, t3) = ta zs) := hT
  clear hn0 hr0 hb0 hz0 hG hT
  go_enter Try.func4, Try.ntmps4
  go_wp2_with (first | (go_at_call 9; refine (shown_any _).mono ?_; rintro e w1 ⟨rfl, hb1⟩; have HB1 : Hid (Below w.heap.size w w1) := hb1; clear hb1) | (at_builtin; refine wpList_append_rd rfl (.tmp 24) (.tmp 25) 22 rfl w1.heap.size 5 i0 (.int .u8 0) 1 Try.underlying22 hi hzz0 hzz1 hzz2 rfl _ 0 [] rfl (own_none (w := w1) w1.heap.size 5 (Nat.le_refl _) _ rfl) a0 n0 cap0 .u8 zs rfl ((HR0.out.later HB1.out).later ((Below.refl _ w1).alloc (Nat.le_refl _) _)) HZ0.out ?h63 ?hby ?hbase ?_))
  case h63 => unfold maxLen; omega
  case hby => omega
  case hbase => simp
  intro v2 w2 hown2 hgrow2
  have HG2 : Hid (Below w1.heap.size w1 w2) := ((Below.refl _ w1).alloc (Nat.le_refl _) _).grown hgrow2 (by simp) (fun k hk => ((own_none (w := w1) w1.heap.size 5 (Nat.le_refl _) _ rfl).lt k hk).1)
  have HB2 : Hid (Below w.heap.size w w2) := HB1.out.trans (HG2.out.mono HB1.out.size)
  have hown2' : w2.ownsRow w1.heap.size 5 1 v2 n0 (zs.map (Value.int .u8)) := by simpa using hown2
  obtain ⟨a2, cap2, hv2, hc2, hm2, hf2⟩ := own_form hown2'
  subst hv2
  have HO2 : Hid (w2.ownsRow w1.heap.size 5 1 (.slice a2 n0 cap2) n0 (zs.map (Value.int .u8))) := hown2'
  have HF2 : Hid (0 < n0 → ∃ g, a2 = some ⟨g, 0, none⟩ ∧ w1.heap.size ≤ g ∧ g < w2.heap.size) := hf2
  obtain ⟨a2', cap2', hv2', _, _, hr2⟩ := rd_own hown2'
  cases hv2'
  have HR2 : Hid (Rd .u8 w2 a2 n0 zs) := hr2
  have c0 := conv_str (cap := cap0) (HR0.out.later HB2.out)
  clear hown2 hown2' hgrow2 hr2 hf2
  go_wp2_with fail
  refine (get_any zs _ _ _ _ HY0.out HR2.out (by omega)).mono ?_
  rw [← HG.out]
  rintro e w' ⟨rfl, hw'⟩
  obtain rfl : w2 = w' := hw'.symm
  go_wp2_with fail
  refine (rget_any zs _ HY0.out (by have := HL0.out; omega)).mono ?_
  rw [← HG.out]
  rintro e w3 ⟨rfl, hb3⟩
  have HB3 : Hid (Below w2.heap.size w2 w3) := hb3
  have HW3 : Hid (Below w.heap.size w w3) := HB2.out.trans (hb3.mono HB2.out.size)
  have c3 := conv_str (cap := cap0) (HR0.out.later HW3.out)
  clear hb3 c0
  go_wp2_with fail
  refine (text_any zs _ _ _ _ HY0.out (HR2.out.later HB3.out) hc2 (by omega)).mono ?_
  rw [← HT.out]
  rintro e w' ⟨rfl, hw'⟩
  obtain rfl : w3 = w' := hw'.symm
  go_wp2_with fail
  refine (rtext_any zs _ HY0.out (by have := HL0.out; omega)).mono ?_
  rw [← HT.out]
  rintro e w4 ⟨rfl, hb4⟩
  have HB4 : Hid (Below w2.heap.size w2 w4) := HB3.out.trans (hb4.mono HB3.out.size)
  have HW4 : Hid (Below w.heap.size w w4) := HB2.out.trans (HB4.out.mono HB2.out.size)
  have HG4 : Hid (Below w1.heap.size w1 w4) := HG2.out.trans (HB4.out.mono HG2.out.size)
  have c4 := conv_str (cap := cap0) (HR0.out.later HW4.out)
  have c5 := conv_str (cap := cap2) (HR2.out.later HB4.out)
  have HO4 : Hid (w4.ownsRow w1.heap.size 5 1 (.slice a2 n0 cap2) n0 (zs.map (Value.int .u8))) := own_later HO2.out HB4.out
  clear hb4 c3 HB3 HW3 HO2
  go_wp2
  go_loopw [17] (fun i wr => ∃ (k : Nat) (xs : List Value), k ≤ n0 ∧ i = .int .i64 k ∧ wr.ownsRow w1.heap.size 5 1 (.slice a2 n0 cap2) n0 xs ∧ Below w1.heap.size w1 wr) (fun i _ => n0 - (intOf i).toNat)
  case atStart => exact ⟨0, _, by omega, rfl, HO4.out, HG4.out⟩
  case round =>
    obtain ⟨k, xs, hk, hx, hown, hbel⟩ := hrel
    subst hx
    have HO : Hid (wr.ownsRow w1.heap.size 5 1 (.slice a2 n0 cap2) n0 xs) := hown
    have HB : Hid (Below w1.heap.size w1 wr) := hbel
    clear hown hbel c4 c5
    by_cases hlt : k < n0
    · obtain ⟨g, ha2, hg1, hg2⟩ := HF2.out (by omega)
      subst ha2
      have hxl : xs.length = n0 := by simpa using HO.out.1
      have hcell := HO.out.cellAt k (by omega)
      obtain ⟨y, hy⟩ : ∃ y, xs[k]? = some y := ⟨_, List.getElem?_eq_getElem (by omega)⟩
      rw [hy] at hcell
      have hfr := HO.out.frozenAt k
      have hcell' : wr.cell? ⟨g, k, none⟩ = some y := hcell
      have HS : Hid ((wr.setCell ⟨g, k, none⟩ (.int .u8 63)).ownsRow w1.heap.size 5 1 (.slice (some ⟨g, 0, none⟩) n0 cap2) n0 (xs.set k (.int .u8 63))) := (HO.out.stored k (.int .u8 63)).1
      clear hcell hy hxl
      go_wp2
      go_roundw
      case rel => exact ⟨k + 1, _, by omega, by go_num, HS.out, HB.out.setCell hg1 _⟩
      case measure => simp [intOf]; omega
    · have HBW : Hid (Below w.heap.size w wr) := HB1.out.trans (HB.out.mono HB1.out.size)
      go_wp2
      go_ret
      exact ⟨ret_bool (by simp), HBW.out⟩
end Go.Proofs.Ytefikaldfbidkaa
