/- The walk of UtfPlain: whatever the bytes and the characters: true. -/
import Derived.Test.YtdoflmgdmcmmfabUtfI
import Derived.Test.YtdoflmgdmcmmfabUtfO
namespace Go.Proofs.Ytdoflmgdmcmmfab
open Go.RowKit
set_option linter.unusedVariables false

theorem own_form {w : World} {B : Nat} {e : TypeId} {v : Value} {n : Nat} {xs : List Value} (h : w.ownsRow B e 1 v n xs) : ∃ a cap, v = .slice a n cap ∧ n ≤ cap ∧ cap ≤ 9223372036854775807 ∧ (0 < n → ∃ g, a = some ⟨g, 0, none⟩ ∧ B ≤ g ∧ g < w.heap.size) := by
  rcases h.2 with ⟨rfl, rfl⟩ | ⟨g, cap, cur, rfl, hb, hg, hn, hm, _⟩
  · exact ⟨none, 0, rfl, by omega, by omega, fun h => absurd h (by omega)⟩
  · exact ⟨_, cap, rfl, hn, by simpa [maxLen] using hm, fun _ => ⟨g, rfl, hb, (Array.getElem?_eq_some_iff.1 hg).1⟩⟩

set_option maxHeartbeats 2000000 in
theorem utfPlain_walk (a0 a1 : Option Addr) (len0 cap0 len1 cap1 n0 : Nat) (zs ls : List Int) (w : World) (hc0 : len0 ≤ cap0) (hc1 : len1 ≤ cap1) (hm1 : cap1 ≤ 9223372036854775807)
    (hn0 : n0 = min len0 300) (h0 : Rd .u8 w a0 n0 zs) (hb0 : ∀ y ∈ zs, 0 ≤ y ∧ y ≤ 255) (h1 : Rd .i32 w a1 len1 ls) (hz0 : a0 = none → cap0 = 0) :
    Calls Try.prog 4 #[.slice a0 len0 cap0, .slice a1 len1 cap1] w fun e w' => e = .returned (.bool true) ∧ Below w.heap.size w w' := by
  obtain ⟨i0, hi, hzz0, hzz1, hzz2⟩ := info_parts info_u8
  have hm0 := min_run len0 n0 300 (by omega)
  have hs0 := cut_bytes a0 len0 cap0 n0 (by omega)
  have hl0 : n0 ≤ 300 := by omega
  have H0 : Hid (Rd .u8 w a0 n0 zs) := h0
  have H1 : Hid (Rd .i32 w a1 len1 ls) := h1
  have HZ0 : Hid (a0 = none → cap0 = 0) := hz0
  have HY : Hid (∀ y ∈ zs, 0 ≤ y ∧ y ≤ 255) := hb0
  have HL : Hid (zs.length = n0) := h0.1
  clear hn0 h0 h1 hz0 hb0
  go_enter Try.func4, Try.ntmps4
  go_wp2_with (first | (go_at_call 5; refine (shown_any _).mono ?_; rintro e w1 ⟨rfl, hb1⟩; have HB1 : Hid (Below w.heap.size w w1) := hb1; clear hb1) | (at_builtin; refine wpList_append_rd rfl (.tmp 15) (.tmp 20) 24 rfl w1.heap.size 5 i0 (.int .u8 0) 1 Try.underlying24 hi hzz0 hzz1 hzz2 rfl _ 0 [] rfl (own_none (w := w1) w1.heap.size 5 (Nat.le_refl _) _ rfl) a0 n0 cap0 .u8 zs rfl (H0.out.later (HB1.out.alloc HB1.out.size _)) HZ0.out ?h63 ?hby ?hbase ?_))
  case h63 => unfold maxLen; omega
  case hby => omega
  case hbase => simp
  intro v2 w2 hown2 hgrow2
  have HG2 : Hid (Below w1.heap.size w1 w2) := ((Below.refl _ w1).alloc (Nat.le_refl _) _).grown hgrow2 (by simp) (fun k hk => ((own_none (w := w1) w1.heap.size 5 (Nat.le_refl _) _ rfl).lt k hk).1)
  have hown2' : w2.ownsRow w1.heap.size 5 1 v2 n0 (zs.map (Value.int .u8)) := by simpa using hown2
  obtain ⟨a2, cap2, hv2, hc2, hm2, hf2⟩ := own_form hown2'
  rw [hv2] at hown2'
  have HO2 : Hid (w2.ownsRow w1.heap.size 5 1 (.slice a2 n0 cap2) n0 (zs.map (Value.int .u8))) := hown2'
  have HF2 : Hid (0 < n0 → ∃ g, a2 = some ⟨g, 0, none⟩ ∧ w1.heap.size ≤ g ∧ g < w2.heap.size) := hf2
  clear hown2 hown2' hgrow2 hf2
  rw [hv2]
  clear hv2
  go_wp2
  go_loopw [6] (fun i wr => ∃ k : Nat, k ≤ n0 ∧ i = .int .i64 k ∧ wr.ownsRow w1.heap.size 5 1 (.slice a2 n0 cap2) n0 ((mask zs k).map (Value.int .u8)) ∧ Below w1.heap.size w1 wr) (fun i _ => n0 - (intOf i).toNat)
  case atStart => exact ⟨0, by omega, rfl, by rw [mask_zero]; exact HO2.out, HG2.out⟩
  case round =>
    obtain ⟨k, hk, rfl, hown, hbel⟩ := hrel
    have HO : Hid (wr.ownsRow w1.heap.size 5 1 (.slice a2 n0 cap2) n0 ((mask zs k).map (Value.int .u8))) := hown
    have HB : Hid (Below w1.heap.size w1 wr) := hbel
    clear hown hbel
    by_cases hlt : k < n0
    · obtain ⟨g, ha2, hg1, hg2⟩ := HF2.out (by omega)
      subst ha2
      have hcell := HO.out.cellAt k (by omega)
      rw [List.getElem?_map, mask_get zs k (by have := HL.out; omega)] at hcell
      have hfr := HO.out.frozenAt k
      obtain ⟨y, hyd⟩ : ∃ y, y = zs.getD k 0 := ⟨_, rfl⟩
      rw [← hyd] at hcell
      have hyb := HY.out y (by rw [hyd]; have := HL.out; simp [show k < zs.length by omega])
      have hy0 : 0 ≤ y := hyb.1
      have hy1 : y ≤ 255 := hyb.2
      have hcell' : wr.cell? ⟨g, k, none⟩ = some (.int .u8 y) := hcell
      have HS : Hid ((wr.setCell ⟨g, k, none⟩ (.int .u8 (y % 128))).ownsRow w1.heap.size 5 1 (.slice (some ⟨g, 0, none⟩) n0 cap2) n0 ((mask zs (k + 1)).map (Value.int .u8))) := by
        have := (HO.out.stored k (.int .u8 (y % 128))).1
        rw [← List.map_set, hyd, mask_set zs k (by have := HL.out; omega), ← hyd] at this
        exact this
      have hand : bits .and .u8 y 127 = y % 128 := bits_mask .u8 8 (by decide) wraps_u8 7 (by decide) y hy0 (by omega)
      clear hcell hyd hyb
      go_wp2
      go_roundw
      case rel => exact ⟨k + 1, by omega, by go_num, HS.out, HB.out.setCell hg1 _⟩
      case measure => simp [intOf]; omega
    · have hke : k = n0 := by omega
      obtain ⟨ps, hps⟩ : ∃ ps, ps = zs.map (· % 128) := ⟨_, rfl⟩
      have hpl : ps.length = n0 := by rw [hps]; have := HL.out; simpa using this
      have hpr : ∀ y ∈ ps, 0 ≤ y ∧ y < 128 := by
        intro y hy; rw [hps] at hy; simp at hy; obtain ⟨z, _, rfl⟩ := hy; omega
      have HPR : Hid (∀ y ∈ ps, 0 ≤ y ∧ y < 128) := hpr
      have HPL : Hid (ps.length = n0) := hpl
      have hrp := rd_own (xs := ps) (by
        have := HO.out
        rw [hke, ← HL.out, mask_all, ← hps] at this
        rw [HL.out] at this
        exact this)
      obtain ⟨a3, cap3, hv3, _, _, hr3⟩ := hrp
      cases hv3
      have HR3 : Hid (Rd .u8 wr a2 n0 ps) := hr3
      have HBW : Hid (Below w.heap.size w wr) := HB1.out.trans (HB.out.mono HB1.out.size)
      clear hke hps hpl hpr hr3 HO HO2
      go_wp2_with fail
      refine (decode_ok ps _ _ _ _ ps hc2 hm2 (by omega) (fun y hy => by have := HPR.out y hy; omega) HR3.out (dec_plain ps HPR.out)).mono ?_
      rw [HPL.out]
      rintro e w5 ⟨hb5, a5, cap5, rfl, hc5, hm5, hr5⟩
      have HR5 : Hid (Rd .i32 w5 a5 n0 ps) := hr5
      have HR6 : Hid (Rd .u8 w5 a2 n0 ps) := HR3.out.later hb5
      have HB5 : Hid (Below w.heap.size w w5) := HBW.out.trans (hb5.mono HBW.out.size)
      clear hb5 hr5 HR3 HBW HG2 HB HF2
      go_wp2
      go_loopw [9] (fun i wr => ∃ k : Nat, k ≤ n0 ∧ i = .int .i64 k ∧ Below w5.heap.size w5 wr) (fun i _ => n0 - (intOf i).toNat)
      case atStart => exact ⟨0, by omega, rfl, Below.refl _ _⟩
      case round =>
        obtain ⟨j, hj, rfl, hbj⟩ := hrel
        have HBJ : Hid (Below w5.heap.size w5 wr) := hbj
        clear hbj hk hlt
        by_cases hlt : j < n0
        · obtain ⟨b5, o5, rfl, hcl5⟩ := (HR5.out.later HBJ.out).2 (by omega)
          obtain ⟨b6, o6, rfl, hcl6⟩ := (HR6.out.later HBJ.out).2 (by omega)
          have hp := hcl5 j hlt
          have hq := hcl6 j hlt
          obtain ⟨y, hyd⟩ : ∃ y, y = ps.getD j 0 := ⟨_, rfl⟩
          rw [← hyd] at hp hq
          have hyb := HPR.out y (by rw [hyd]; have := HPL.out; simp [show j < ps.length by omega])
          have hy0 : 0 ≤ y := hyb.1
          have hy1 : y < 128 := hyb.2
          clear hcl5 hcl6 hyd hyb
          go_wp2
          go_region
          all_goals go_wp2
          all_goals go_roundw
          case rel => exact ⟨j + 1, by omega, by go_num, HBJ.out.drew⟩
          case measure => simp [intOf]; omega
        · have HBK : Hid (Below w.heap.size w wr) := HB5.out.trans (HBJ.out.mono HB5.out.size)
          clear HBJ HB5 HR5 HR6
          go_wp2
          clear hlt hj
          go_loopw [10] (fun i wx => ∃ k : Nat, k ≤ len1 ∧ k ≤ 100 ∧ i = .int .i64 k ∧ Below w.heap.size w wx) (fun i _ => len1 - (intOf i).toNat)
          case atStart => exact ⟨0, by omega, by omega, rfl, HBK.out⟩
          case round =>
            obtain ⟨q, hq1, hq2, rfl, hbq⟩ := hrel
            have HBQ : Hid (Below w.heap.size w wr) := hbq
            clear hbq HBK
            by_cases hlt : q < len1 ∧ q < 100
            · obtain ⟨hlt1, hlt2⟩ := hlt
              obtain ⟨b1, o1, rfl, hcl1⟩ := (H1.out.later HBQ.out).2 (by omega)
              have hcc := hcl1 q hlt1
              obtain ⟨c, hcd⟩ : ∃ c, c = ls.getD q 0 := ⟨_, rfl⟩
              rw [← hcd] at hcc
              have HRC : Hid (Rd .i32 wr (some ⟨b1, o1 + q, none⟩) 1 [c]) := by
                refine ⟨rfl, fun _ => ⟨b1, o1 + q, rfl, fun i hi => ?_⟩⟩
                obtain rfl : i = 0 := by omega
                simpa using hcc
              clear hcl1 hcd
              have hqc : q < cap1 := by omega
              have hblt : b1 < wr.heap.size := World.block_lt_of_cell? wr _ hcc
              by_cases hs : sz c = 0
              · go_wp2_with fail
                refine (encode_bad [c] _ _ _ _ (by omega) HRC.out (by simp [oks, hs])).mono ?_
                rintro e w7 ⟨hb7, rfl⟩
                have HB7 : Hid (Below w.heap.size w w7) := HBQ.out.trans (hb7.mono HBQ.out.size)
                clear hb7 hs
                go_wp2
                refine wp_loop_rounds 1 ?_
                rw [rounds_succ]
                go_wp2
                go_roundw
                case rel => exact ⟨q + 1, by omega, by omega, by go_num, HB7.out⟩
                case measure => simp [intOf]; omega
              · have HE : Hid (encs [c] = by8 c) := by show encs [c] = _; simp [encs]
                go_wp2_with fail
                refine (encode_ok [c] _ _ _ _ (by omega) HRC.out (by simp [oks, hs])).mono ?_
                rw [HE.out]
                rintro e w7 ⟨hb7, a7, cap7, rfl, hc7, hm7, hr7⟩
                have HB7 : Hid (Below w.heap.size w w7) := HBQ.out.trans (hb7.mono HBQ.out.size)
                have hc8 : w7.cell? ⟨b1, o1 + q, none⟩ = some (.int .i32 c) := (hb7.cell (p := ⟨b1, o1 + q, none⟩) hblt).trans hcc
                have HR7 : Hid (Rd .u8 w7 a7 (by8 c).length (by8 c)) := hr7
                have HS : Hid (sz c ≠ 0) := hs
                obtain ⟨B, hB⟩ : ∃ B, B = by8 c := ⟨_, rfl⟩
                rw [← hB] at HR7 ⊢
                have hBl := by8_len c
                rw [← hB] at hBl
                have HBB : Hid (B = by8 c) := hB
                clear hb7 hs hcc hr7 hB hc7
                go_wp2
                go_loop [13] (fun n => ∃ j : Nat, j ≤ B.length ∧ n = .int .i64 j) (fun n => B.length - (intOf n).toNat)
                case atStart => exact ⟨0, by omega, rfl⟩
                case round =>
                  obtain ⟨j, hj, rfl⟩ := hrel
                  by_cases hjl : j < B.length
                  · obtain ⟨b7, o7, rfl, hcl7⟩ := HR7.out.2 (by omega)
                    have hx := hcl7 j hjl
                    obtain ⟨y, hyd⟩ : ∃ y, y = B.getD j 0 := ⟨_, rfl⟩
                    rw [← hyd] at hx
                    have HHI : Hid (128 ≤ c → 128 ≤ y) := by
                      intro h
                      have := by8_high c HS.out h y (by rw [← HBB.out, hyd]; simp [hjl])
                      exact this
                    clear hcl7 hyd
                    by_cases hch : 128 ≤ c
                    · have hyh := HHI.out hch
                      go_wp2
                      go_round
                      case rel => exact ⟨j + 1, by omega, by go_num⟩
                      case measure => simp [intOf]; omega
                    · go_wp2
                      go_round
                      case rel => exact ⟨j + 1, by omega, by go_num⟩
                      case measure => simp [intOf]; omega
                  · go_wp2
                    go_roundw
                    case rel => exact ⟨q + 1, by omega, by omega, by go_num, HB7.out⟩
                    case measure => simp [intOf]; omega
            · by_cases hlt1 : q < len1
              · have hlt2 : ¬ q < 100 := by omega
                clear hlt
                go_wp2
                go_ret
                exact ⟨rfl, HBQ.out⟩
              · clear hlt
                go_wp2
                go_ret
                exact ⟨rfl, HBQ.out⟩
end Go.Proofs.Ytdoflmgdmcmmfab
