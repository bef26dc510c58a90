/- The walk of CrcLinear: whatever the three rows: true. -/
import Derived.Test.YtdfkoiblcebimaaCrcQ
import Derived.Deep.DeepCutAuto
import Derived.Deep.RegionWith
namespace Go.Proofs.Ytdfkoiblcebimaa
open Go.RowKit
set_option linter.unusedVariables false

theorem getD_toNat (xs : List Int) (i : Nat) (h : i < xs.length) : (xs.map Int.toNat).getD i 0 = (xs.getD i 0).toNat := by simp [h]
set_option maxRecDepth 100000 in
set_option maxHeartbeats 8000000 in
theorem crcLinear_walk (a0 a1 a2 : Option Addr) (len0 cap0 len1 cap1 len2 cap2 n : Nat) (xs ys zs : List Int) (w : World) (hc0 : len0 ≤ cap0) (hc1 : len1 ≤ cap1) (hc2 : len2 ≤ cap2) (hn : n = min (min (min len0 len1) len2) 1000)
    (hr0 : Rd .u8 w a0 n xs) (hr1 : Rd .u8 w a1 n ys) (hr2 : Rd .u8 w a2 n zs) (hb0 : ∀ y ∈ xs, 0 ≤ y ∧ y ≤ 255) (hb1 : ∀ y ∈ ys, 0 ≤ y ∧ y ≤ 255) (hb2 : ∀ y ∈ zs, 0 ≤ y ∧ y ≤ 255) :
    Calls Try.prog 6 #[.slice a0 len0 cap0, .slice a1 len1 cap1, .slice a2 len2 cap2] w fun e w' => e = .returned (.bool true) ∧ Below w.heap.size w w' := by
  obtain ⟨i0, hi, hzz0, hzz1, hzz2⟩ := info_parts info_u8
  have HR0 : Hid (Rd .u8 w a0 n xs) := hr0
  have HR1 : Hid (Rd .u8 w a1 n ys) := hr1
  have HR2 : Hid (Rd .u8 w a2 n zs) := hr2
  have HY0 : Hid (∀ y ∈ xs, 0 ≤ y ∧ y ≤ 255) := hb0
  have HY1 : Hid (∀ y ∈ ys, 0 ≤ y ∧ y ≤ 255) := hb1
  have HY2 : Hid (∀ y ∈ zs, 0 ≤ y ∧ y ≤ 255) := hb2
  have HL0 : Hid (xs.length = n) := hr0.1
  have HL1 : Hid (ys.length = n) := hr1.1
  have HL2 : Hid (zs.length = n) := hr2.1
  have hmin := min_four len0 len1 len2 n 1000 (by omega)
  have hn2 : n ≤ 1000 := by omega
  have hl0 : n ≤ len0 := by omega
  have hl1 : n ≤ len1 := by omega
  have hl2 : n ≤ len2 := by omega
  clear hr0 hr1 hr2 hb0 hb1 hb2 hn
  go_enter Try.func6, Try.ntmps6
  go_wp2_with fail
  refine (shown_any _).mono ?_
  rintro e w1 ⟨rfl, hb1⟩
  have HB1 : Hid (Below w.heap.size w w1) := hb1
  clear hb1
  obtain ⟨w2, hrun, hown2, hgrow2⟩ := run_makeSlice_full (P := Try.prog) w1 w1.heap.size 22 5 i0 (.int .u8 0) 1 Try.underlying22 hi hzz0 hzz1 .i64 .i64 n (by omega) (by rw [hzz2]; omega) (by unfold maxLen; omega) (Nat.le_refl _)
  rw [made_noughts (xs.map Int.toNat) (ys.map Int.toNat) (zs.map Int.toNat)] at hown2
  have HO2 : Hid (w2.ownsRow w1.heap.size 5 1 (.slice (some ⟨w1.heap.size, 0, none⟩) n n) n (((lr (xs.map Int.toNat) (ys.map Int.toNat) (zs.map Int.toNat) n 0).map Int.ofNat).map (Value.int .u8))) := hown2
  have HB2 : Hid (Below w1.heap.size w1 w2) := (Below.refl _ w1).grown hgrow2 (Nat.le_refl _) (fun k hk => by cases hk)
  clear hown2 hgrow2
  go_wp2
  clear hmin hrun
  obtain ⟨H, hH⟩ : ∃ H, H = w1.heap.size := ⟨_, rfl⟩
  rw [← hH] at HO2 HB2 ⊢
  have HH : Hid (H = w1.heap.size) := hH
  clear hH
  go_loopw [10] (fun x10 wr => ∃ i : Nat, i ≤ n ∧ x10 = .int .i64 i ∧ wr.ownsRow H 5 1 (.slice (some ⟨H, 0, none⟩) n n) n (((lr (xs.map Int.toNat) (ys.map Int.toNat) (zs.map Int.toNat) n i).map Int.ofNat).map (Value.int .u8)) ∧ Below H w1 wr) (fun x10 _ => n - (intOf x10).toNat)
  case atStart => exact ⟨0, by omega, rfl, HO2.out, HB2.out⟩
  case round =>
    obtain ⟨i, hin, hx10, hown, hbel⟩ := hrel
    subst hx10
    have HO : Hid (wr.ownsRow H 5 1 (.slice (some ⟨H, 0, none⟩) n n) n (((lr (xs.map Int.toNat) (ys.map Int.toNat) (zs.map Int.toNat) n i).map Int.ofNat).map (Value.int .u8))) := hown
    have HB : Hid (Below H w1 wr) := hbel
    have HBW : Hid (Below w.heap.size w wr) := HB1.out.trans (hbel.mono (by rw [HH.out]; exact HB1.out.size))
    clear hown hbel
    by_cases hlt : i < n
    · have hi0 : i < len0 := by omega
      have hi1 : i < len1 := by omega
      have hi2 : i < len2 := by omega
      obtain ⟨b0, off0, rfl, hcl0⟩ := (HR0.out.later HBW.out).2 (by omega)
      obtain ⟨b1, off1, rfl, hcl1⟩ := (HR1.out.later HBW.out).2 (by omega)
      obtain ⟨b2, off2, rfl, hcl2⟩ := (HR2.out.later HBW.out).2 (by omega)
      have hcx := hcl0 i hlt
      have hcy := hcl1 i hlt
      have hcz := hcl2 i hlt
      have hxr := HY0.out (xs.getD i 0) (by have := HL0.out; simp [show i < xs.length by omega])
      have hyr := HY1.out (ys.getD i 0) (by have := HL1.out; simp [show i < ys.length by omega])
      have hzr := HY2.out (zs.getD i 0) (by have := HL2.out; simp [show i < zs.length by omega])
      have hnext := lr_next (xs.map Int.toNat) (ys.map Int.toNat) (zs.map Int.toNat) n i hlt
      rw [getD_toNat xs i (by have := HL0.out; omega), getD_toNat ys i (by have := HL1.out; omega), getD_toNat zs i (by have := HL2.out; omega)] at hnext
      obtain ⟨x, hx⟩ : ∃ x : Nat, (x : Int) = xs.getD i 0 := ⟨(xs.getD i 0).toNat, by omega⟩
      obtain ⟨y, hy⟩ : ∃ y : Nat, (y : Int) = ys.getD i 0 := ⟨(ys.getD i 0).toNat, by omega⟩
      obtain ⟨z, hz⟩ : ∃ z : Nat, (z : Int) = zs.getD i 0 := ⟨(zs.getD i 0).toNat, by omega⟩
      rw [← hx] at hcx hxr hnext
      rw [← hy] at hcy hyr hnext
      rw [← hz] at hcz hzr hnext
      rw [Int.toNat_natCast, Int.toNat_natCast, Int.toNat_natCast] at hnext
      have hq1 := u8_xor_nat x y (by omega) (by omega)
      have hpl : x ^^^ y < 256 := Nat.xor_lt_two_pow (n := 8) (by omega) (by omega)
      obtain ⟨p, hp⟩ : ∃ p, p = x ^^^ y := ⟨_, rfl⟩
      rw [← hp] at hq1 hpl hnext
      have hq2 := u8_xor_nat p z hpl (by omega)
      obtain ⟨q, hq⟩ : ∃ q, q = p ^^^ z := ⟨_, rfl⟩
      rw [← hq] at hq2 hnext
      have hcell := HO.out.cellAt i (by omega)
      rw [List.getElem?_map, List.getElem?_map, lr_at _ _ _ n i i hlt] at hcell
      have hfr := HO.out.frozenAt i
      have hcell' : wr.cell? ⟨H, i, none⟩ = some (.int .u8 0) := by simpa using hcell
      have HS : Hid ((wr.setCell ⟨H, i, none⟩ (.int .u8 q)).ownsRow H 5 1 (.slice (some ⟨H, 0, none⟩) n n) n (((lr (xs.map Int.toNat) (ys.map Int.toNat) (zs.map Int.toNat) n (i + 1)).map Int.ofNat).map (Value.int .u8))) := by
        have := (HO.out.stored i (.int .u8 q)).1
        rw [← hnext, List.map_set, List.map_set]
        exact this
      clear hcell hx hy hz hp hq hnext hcl0 hcl1 hcl2
      go_upto_region 7 with fail
      refine wp_region_any (by kernel_rfl) ?_
      try (change wpAny _ _ _ _ _ _ _ (World.drew _))
      refine wpAny_take (i := 0) (v := ?_) rfl (by kernel_rfl) (by kernel_rfl) (by kernel_rfl) (fun _ _ _ h => h) (Or.inl ⟨by rfl, ?_⟩) ?_
      rotate_left
      · intro w
        go_simp
        try with_reducible rfl
      go_simp
      refine wpAny_take (i := 1) (v := ?_) rfl (by kernel_rfl) (by kernel_rfl) (by kernel_rfl) (fun _ _ _ h => h) (Or.inl ⟨by rfl, ?_⟩) ?_
      rotate_left
      · intro w
        go_simp
        try with_reducible rfl
      go_simp
      refine wpAny_take (i := 2) (v := ?_) rfl (by kernel_rfl) (by kernel_rfl) (by kernel_rfl) (fun _ _ _ h => h) (Or.inl ⟨by rfl, ?_⟩) ?_
      rotate_left
      · intro w
        go_simp
        try with_reducible rfl
      go_simp
      refine wpAny_take (i := 3) (v := ?_) rfl (by kernel_rfl) (by kernel_rfl) (by kernel_rfl) (fun _ _ _ h => h) (Or.inl ⟨by rfl, ?_⟩) ?_
      rotate_left
      · intro w
        go_simp
        try with_reducible rfl
      go_simp
      refine wpAny_take (i := 4) (v := ?_) rfl (by kernel_rfl) (by kernel_rfl) (by kernel_rfl) (fun _ _ _ h => h) (Or.inl ⟨by rfl, ?_⟩) ?_
      rotate_left
      · intro w
        go_simp
        try with_reducible rfl
      go_simp
      refine wpAny_take (i := 6) (v := ?_) rfl (by kernel_rfl) (by kernel_rfl) (by kernel_rfl) (fun _ _ _ h => h) (Or.inl ⟨by rfl, ?_⟩) ?_
      rotate_left
      · intro w
        go_simp
        try with_reducible rfl
      go_simp
      refine wpAny_take (i := 7) (v := ?_) rfl (by kernel_rfl) (by kernel_rfl) (by kernel_rfl) (fun _ _ _ h => h) (Or.inl ⟨by rfl, ?_⟩) ?_
      rotate_left
      · intro w
        go_simp
        try with_reducible rfl
      go_simp
      refine wpAny_take (i := 8) (v := ?_) rfl (by kernel_rfl) (by kernel_rfl) (by kernel_rfl) (fun _ _ _ h => h) (Or.inl ⟨by rfl, ?_⟩) ?_
      rotate_left
      · intro w
        go_simp
        try with_reducible rfl
      go_simp
      refine wpAny_take (i := 11) (v := ?_) rfl (by kernel_rfl) (by kernel_rfl) (by kernel_rfl) (fun _ _ _ h => h) (Or.inl ⟨by rfl, ?_⟩) ?_
      rotate_left
      · intro w
        go_simp
        try with_reducible rfl
      go_simp
      refine wpAny_take (i := 12) (v := ?_) rfl (by kernel_rfl) (by kernel_rfl) (by kernel_rfl) (fun _ _ _ h => h) (Or.inl ⟨by rfl, ?_⟩) ?_
      rotate_left
      · intro w
        go_simp
        try with_reducible rfl
      go_simp
      refine wpAny_take (i := 13) (v := ?_) rfl (by kernel_rfl) (by kernel_rfl) (by kernel_rfl) (fun _ _ _ h => h) (Or.inl ⟨by rfl, ?_⟩) ?_
      rotate_left
      · intro w
        go_simp
        try with_reducible rfl
      go_simp
      refine wpAny_ready (rs := [5, 9, 14]) (by kernel_rfl) (by simp) ?_
      refine AllReady.cons rfl (fun K hK => ?_) ?_
      · go_simp
        refine hK _ _ ?_
        clear hK K
        refine wpAny_ready (rs := [9, 14]) (by kernel_rfl) (by simp) ?_
        refine AllReady.cons rfl (fun K hK => ?_) ?_
        · go_simp
          refine hK _ _ ?_
          clear hK K
          refine wpAny_take (i := 10) (v := ?_) rfl (by kernel_rfl) (by kernel_rfl) (by kernel_rfl) (fun _ _ _ h => h) (Or.inl ⟨by rfl, ?_⟩) ?_
          rotate_left
          · intro w
            go_simp
            try with_reducible rfl
          go_simp
          refine wpAny_ready (rs := [14]) (by kernel_rfl) (by simp) ?_
          refine AllReady.cons rfl (fun K hK => ?_) ?_
          · go_simp
            refine hK _ _ ?_
            clear hK K
            refine wpAny_take (i := 15) (v := ?_) rfl (by kernel_rfl) (by kernel_rfl) (by kernel_rfl) (fun _ _ _ h => h) (Or.inl ⟨by rfl, ?_⟩) ?_
            rotate_left
            · intro w
              go_simp
              try with_reducible rfl
            go_simp
            refine wpAny_take (i := 16) (v := ?_) rfl (by kernel_rfl) (by kernel_rfl) (by kernel_rfl) (fun _ _ _ h => h) (Or.inl ⟨by rfl, ?_⟩) ?_
            rotate_left
            · intro w
              go_simp
              try with_reducible rfl
            go_simp
            refine wpAny_ready (rs := [17]) (by kernel_rfl) (by simp) ?_
            refine AllReady.cons rfl (fun K hK => ?_) ?_
            · go_simp
              refine hK _ _ ?_
              clear hK K
              refine wpAny_done (by kernel_rfl) ?_ _
              go_wp2
              go_roundw
              case rel => exact ⟨i + 1, by omega, by go_num, own_later HS.out (Below.refl _ _).drew, (HB.out.setCell (Nat.le_refl _) _).drew⟩
              case measure => simp [intOf]; omega
            exact AllReady.nil
          exact AllReady.nil
        refine AllReady.cons rfl (fun K hK => ?_) ?_
        · go_simp
          refine hK _ _ ?_
          clear hK K
          refine wpAny_ready (rs := [9]) (by kernel_rfl) (by simp) ?_
          refine AllReady.cons rfl (fun K hK => ?_) ?_
          · go_simp
            refine hK _ _ ?_
            clear hK K
            refine wpAny_take (i := 10) (v := ?_) rfl (by kernel_rfl) (by kernel_rfl) (by kernel_rfl) (fun _ _ _ h => h) (Or.inl ⟨by rfl, ?_⟩) ?_
            rotate_left
            · intro w
              go_simp
              try with_reducible rfl
            go_simp
            refine wpAny_take (i := 15) (v := ?_) rfl (by kernel_rfl) (by kernel_rfl) (by kernel_rfl) (fun _ _ _ h => h) (Or.inl ⟨by rfl, ?_⟩) ?_
            rotate_left
            · intro w
              go_simp
              try with_reducible rfl
            go_simp
            refine wpAny_take (i := 16) (v := ?_) rfl (by kernel_rfl) (by kernel_rfl) (by kernel_rfl) (fun _ _ _ h => h) (Or.inl ⟨by rfl, ?_⟩) ?_
            rotate_left
            · intro w
              go_simp
              try with_reducible rfl
            go_simp
            refine wpAny_ready (rs := [17]) (by kernel_rfl) (by simp) ?_
            refine AllReady.cons rfl (fun K hK => ?_) ?_
            · go_simp
              refine hK _ _ ?_
              clear hK K
              refine wpAny_done (by kernel_rfl) ?_ _
              go_wp2
              go_roundw
              case rel => exact ⟨i + 1, by omega, by go_num, own_later HS.out (Below.refl _ _).drew, (HB.out.setCell (Nat.le_refl _) _).drew⟩
              case measure => simp [intOf]; omega
            exact AllReady.nil
          exact AllReady.nil
        exact AllReady.nil
      refine AllReady.cons rfl (fun K hK => ?_) ?_
      · go_simp
        refine hK _ _ ?_
        clear hK K
        refine wpAny_ready (rs := [5, 14]) (by kernel_rfl) (by simp) ?_
        refine AllReady.cons rfl (fun K hK => ?_) ?_
        · go_simp
          refine hK _ _ ?_
          clear hK K
          refine wpAny_take (i := 10) (v := ?_) rfl (by kernel_rfl) (by kernel_rfl) (by kernel_rfl) (fun _ _ _ h => h) (Or.inl ⟨by rfl, ?_⟩) ?_
          rotate_left
          · intro w
            go_simp
            try with_reducible rfl
          go_simp
          refine wpAny_ready (rs := [14]) (by kernel_rfl) (by simp) ?_
          refine AllReady.cons rfl (fun K hK => ?_) ?_
          · go_simp
            refine hK _ _ ?_
            clear hK K
            refine wpAny_take (i := 15) (v := ?_) rfl (by kernel_rfl) (by kernel_rfl) (by kernel_rfl) (fun _ _ _ h => h) (Or.inl ⟨by rfl, ?_⟩) ?_
            rotate_left
            · intro w
              go_simp
              try with_reducible rfl
            go_simp
            refine wpAny_take (i := 16) (v := ?_) rfl (by kernel_rfl) (by kernel_rfl) (by kernel_rfl) (fun _ _ _ h => h) (Or.inl ⟨by rfl, ?_⟩) ?_
            rotate_left
            · intro w
              go_simp
              try with_reducible rfl
            go_simp
            refine wpAny_ready (rs := [17]) (by kernel_rfl) (by simp) ?_
            refine AllReady.cons rfl (fun K hK => ?_) ?_
            · go_simp
              refine hK _ _ ?_
              clear hK K
              refine wpAny_done (by kernel_rfl) ?_ _
              go_wp2
              go_roundw
              case rel => exact ⟨i + 1, by omega, by go_num, own_later HS.out (Below.refl _ _).drew, (HB.out.setCell (Nat.le_refl _) _).drew⟩
              case measure => simp [intOf]; omega
            exact AllReady.nil
          exact AllReady.nil
        refine AllReady.cons rfl (fun K hK => ?_) ?_
        · go_simp
          refine hK _ _ ?_
          clear hK K
          refine wpAny_ready (rs := [5]) (by kernel_rfl) (by simp) ?_
          refine AllReady.cons rfl (fun K hK => ?_) ?_
          · go_simp
            refine hK _ _ ?_
            clear hK K
            refine wpAny_take (i := 10) (v := ?_) rfl (by kernel_rfl) (by kernel_rfl) (by kernel_rfl) (fun _ _ _ h => h) (Or.inl ⟨by rfl, ?_⟩) ?_
            rotate_left
            · intro w
              go_simp
              try with_reducible rfl
            go_simp
            refine wpAny_take (i := 15) (v := ?_) rfl (by kernel_rfl) (by kernel_rfl) (by kernel_rfl) (fun _ _ _ h => h) (Or.inl ⟨by rfl, ?_⟩) ?_
            rotate_left
            · intro w
              go_simp
              try with_reducible rfl
            go_simp
            refine wpAny_take (i := 16) (v := ?_) rfl (by kernel_rfl) (by kernel_rfl) (by kernel_rfl) (fun _ _ _ h => h) (Or.inl ⟨by rfl, ?_⟩) ?_
            rotate_left
            · intro w
              go_simp
              try with_reducible rfl
            go_simp
            refine wpAny_ready (rs := [17]) (by kernel_rfl) (by simp) ?_
            refine AllReady.cons rfl (fun K hK => ?_) ?_
            · go_simp
              refine hK _ _ ?_
              clear hK K
              refine wpAny_done (by kernel_rfl) ?_ _
              go_wp2
              go_roundw
              case rel => exact ⟨i + 1, by omega, by go_num, own_later HS.out (Below.refl _ _).drew, (HB.out.setCell (Nat.le_refl _) _).drew⟩
              case measure => simp [intOf]; omega
            exact AllReady.nil
          exact AllReady.nil
        exact AllReady.nil
      refine AllReady.cons rfl (fun K hK => ?_) ?_
      · go_simp
        refine hK _ _ ?_
        clear hK K
        refine wpAny_ready (rs := [5, 9]) (by kernel_rfl) (by simp) ?_
        refine AllReady.cons rfl (fun K hK => ?_) ?_
        · go_simp
          refine hK _ _ ?_
          clear hK K
          refine wpAny_ready (rs := [9]) (by kernel_rfl) (by simp) ?_
          refine AllReady.cons rfl (fun K hK => ?_) ?_
          · go_simp
            refine hK _ _ ?_
            clear hK K
            refine wpAny_take (i := 10) (v := ?_) rfl (by kernel_rfl) (by kernel_rfl) (by kernel_rfl) (fun _ _ _ h => h) (Or.inl ⟨by rfl, ?_⟩) ?_
            rotate_left
            · intro w
              go_simp
              try with_reducible rfl
            go_simp
            refine wpAny_take (i := 15) (v := ?_) rfl (by kernel_rfl) (by kernel_rfl) (by kernel_rfl) (fun _ _ _ h => h) (Or.inl ⟨by rfl, ?_⟩) ?_
            rotate_left
            · intro w
              go_simp
              try with_reducible rfl
            go_simp
            refine wpAny_take (i := 16) (v := ?_) rfl (by kernel_rfl) (by kernel_rfl) (by kernel_rfl) (fun _ _ _ h => h) (Or.inl ⟨by rfl, ?_⟩) ?_
            rotate_left
            · intro w
              go_simp
              try with_reducible rfl
            go_simp
            refine wpAny_ready (rs := [17]) (by kernel_rfl) (by simp) ?_
            refine AllReady.cons rfl (fun K hK => ?_) ?_
            · go_simp
              refine hK _ _ ?_
              clear hK K
              refine wpAny_done (by kernel_rfl) ?_ _
              go_wp2
              go_roundw
              case rel => exact ⟨i + 1, by omega, by go_num, own_later HS.out (Below.refl _ _).drew, (HB.out.setCell (Nat.le_refl _) _).drew⟩
              case measure => simp [intOf]; omega
            exact AllReady.nil
          exact AllReady.nil
        refine AllReady.cons rfl (fun K hK => ?_) ?_
        · go_simp
          refine hK _ _ ?_
          clear hK K
          refine wpAny_ready (rs := [5]) (by kernel_rfl) (by simp) ?_
          refine AllReady.cons rfl (fun K hK => ?_) ?_
          · go_simp
            refine hK _ _ ?_
            clear hK K
            refine wpAny_take (i := 10) (v := ?_) rfl (by kernel_rfl) (by kernel_rfl) (by kernel_rfl) (fun _ _ _ h => h) (Or.inl ⟨by rfl, ?_⟩) ?_
            rotate_left
            · intro w
              go_simp
              try with_reducible rfl
            go_simp
            refine wpAny_take (i := 15) (v := ?_) rfl (by kernel_rfl) (by kernel_rfl) (by kernel_rfl) (fun _ _ _ h => h) (Or.inl ⟨by rfl, ?_⟩) ?_
            rotate_left
            · intro w
              go_simp
              try with_reducible rfl
            go_simp
            refine wpAny_take (i := 16) (v := ?_) rfl (by kernel_rfl) (by kernel_rfl) (by kernel_rfl) (fun _ _ _ h => h) (Or.inl ⟨by rfl, ?_⟩) ?_
            rotate_left
            · intro w
              go_simp
              try with_reducible rfl
            go_simp
            refine wpAny_ready (rs := [17]) (by kernel_rfl) (by simp) ?_
            refine AllReady.cons rfl (fun K hK => ?_) ?_
            · go_simp
              refine hK _ _ ?_
              clear hK K
              refine wpAny_done (by kernel_rfl) ?_ _
              go_wp2
              go_roundw
              case rel => exact ⟨i + 1, by omega, by go_num, own_later HS.out (Below.refl _ _).drew, (HB.out.setCell (Nat.le_refl _) _).drew⟩
              case measure => simp [intOf]; omega
            exact AllReady.nil
          exact AllReady.nil
        exact AllReady.nil
      exact AllReady.nil
    · obtain rfl : i = n := by omega
      have hup := up_three xs ys zs i HL0.out HL1.out HL2.out HY0.out HY1.out HY2.out
      have hlr := lr_rng (xs.map Int.toNat) (ys.map Int.toNat) (zs.map Int.toNat) i i (nat_bytes HY0.out) (nat_bytes HY1.out) (nat_bytes HY2.out)
      obtain ⟨_, _, hv, _, _, hr3⟩ := rd_own HO.out
      cases hv
      obtain ⟨L, hL⟩ : ∃ L, L = (lr (xs.map Int.toNat) (ys.map Int.toNat) (zs.map Int.toNat) i i).map Int.ofNat := ⟨_, rfl⟩
      have hLL : ∀ y ∈ L, 0 ≤ y ∧ y ≤ 255 := by
        intro y hy
        rw [hL] at hy
        simp only [List.mem_map] at hy
        obtain ⟨c, hc, rfl⟩ := hy
        have := hlr c hc
        simp
        omega
      rw [← hL] at hup hr3
      have HLL : Hid (∀ y ∈ L, 0 ≤ y ∧ y ≤ 255) := hLL
      have HRL : Hid (Rd .u8 wr (some ⟨H, 0, none⟩) i L) := hr3
      have hu0 := up_lt 0 xs
      have hu1 := up_lt 0 ys
      have hu2 := up_lt 0 zs
      obtain ⟨U0, h0⟩ : ∃ U, U = up 0 xs := ⟨_, rfl⟩
      obtain ⟨U1, h1⟩ : ∃ U, U = up 0 ys := ⟨_, rfl⟩
      obtain ⟨U2, h2⟩ : ∃ U, U = up 0 zs := ⟨_, rfl⟩
      rw [← h0] at hup hu0
      rw [← h1] at hup hu1
      rw [← h2] at hup hu2
      have HU0 : Hid (up 0 xs = U0) := h0.symm
      have HU1 : Hid (up 0 ys = U1) := h1.symm
      have HU2 : Hid (up 0 zs = U2) := h2.symm
      have hq1 := u32_xor_nat U0 U1 hu0 hu1
      have hpl : U0 ^^^ U1 < 4294967296 := Nat.xor_lt_two_pow (n := 32) hu0 hu1
      obtain ⟨p, hp⟩ : ∃ p, p = U0 ^^^ U1 := ⟨_, rfl⟩
      rw [← hp] at hq1 hpl hup
      have hq2 := u32_xor_nat p U2 hpl hu2
      obtain ⟨q, hq⟩ : ∃ q, q = p ^^^ U2 := ⟨_, rfl⟩
      rw [← hq] at hq2 hup
      have HUP : Hid (up 0 L = q) := hup
      have hk0 := cut_bytes a0 len0 cap0 i (by omega)
      have hk1 := cut_bytes a1 len1 cap1 i (by omega)
      have hk2 := cut_bytes a2 len2 cap2 i (by omega)
      clear hup hlr hr3 hL hLL h0 h1 h2 hp hq HO HB
      go_upto_region 8 with fail
      refine wp_region_any (by kernel_rfl) ?_
      try (change wpAny _ _ _ _ _ _ _ (World.drew _))
      refine wpAny_take (i := 0) (v := ?_) rfl (by kernel_rfl) (by kernel_rfl) (by kernel_rfl) (fun _ _ _ h => h) (Or.inl ⟨by rfl, ?_⟩) ?_
      rotate_left
      · intro w
        go_simp
        try with_reducible rfl
      go_simp
      refine wpAny_take (i := 1) (v := ?_) rfl (by kernel_rfl) (by kernel_rfl) (by kernel_rfl) (fun _ _ _ h => h) (Or.inl ⟨by rfl, ?_⟩) ?_
      rotate_left
      · intro w
        go_simp
        try with_reducible rfl
      go_simp
      refine wpAny_take (i := 2) (v := ?_) rfl (by kernel_rfl) (by kernel_rfl) (by kernel_rfl) (fun _ _ _ h => h) (Or.inl ⟨by rfl, ?_⟩) ?_
      rotate_left
      · intro w
        go_simp
        try with_reducible rfl
      go_simp
      refine wpAny_take (i := 4) (v := ?_) rfl (by kernel_rfl) (by kernel_rfl) (by kernel_rfl) (fun _ _ _ h => h) (Or.inl ⟨by rfl, ?_⟩) ?_
      rotate_left
      · intro w
        go_simp
        try with_reducible rfl
      go_simp
      refine wpAny_take (i := 5) (v := ?_) rfl (by kernel_rfl) (by kernel_rfl) (by kernel_rfl) (fun _ _ _ h => h) (Or.inl ⟨by rfl, ?_⟩) ?_
      rotate_left
      · intro w
        go_simp
        try with_reducible rfl
      go_simp
      refine wpAny_take (i := 6) (v := ?_) rfl (by kernel_rfl) (by kernel_rfl) (by kernel_rfl) (fun _ _ _ h => h) (Or.inl ⟨by rfl, ?_⟩) ?_
      rotate_left
      · intro w
        go_simp
        try with_reducible rfl
      go_simp
      refine wpAny_take (i := 8) (v := ?_) rfl (by kernel_rfl) (by kernel_rfl) (by kernel_rfl) (fun _ _ _ h => h) (Or.inl ⟨by rfl, ?_⟩) ?_
      rotate_left
      · intro w
        go_simp
        try with_reducible rfl
      go_simp
      refine wpAny_take (i := 9) (v := ?_) rfl (by kernel_rfl) (by kernel_rfl) (by kernel_rfl) (fun _ _ _ h => h) (Or.inl ⟨by rfl, ?_⟩) ?_
      rotate_left
      · intro w
        go_simp
        try with_reducible rfl
      go_simp
      refine wpAny_take (i := 10) (v := ?_) rfl (by kernel_rfl) (by kernel_rfl) (by kernel_rfl) (fun _ _ _ h => h) (Or.inl ⟨by rfl, ?_⟩) ?_
      rotate_left
      · intro w
        go_simp
        try with_reducible rfl
      go_simp
      refine wpAny_take (i := 13) (v := ?_) rfl (by kernel_rfl) (by kernel_rfl) (by kernel_rfl) (fun _ _ _ h => h) (Or.inl ⟨by rfl, ?_⟩) ?_
      rotate_left
      · intro w
        go_simp
        try with_reducible rfl
      go_simp
      refine wpAny_take (i := 14) (v := ?_) rfl (by kernel_rfl) (by kernel_rfl) (by kernel_rfl) (fun _ _ _ h => h) (Or.inl ⟨by rfl, ?_⟩) ?_
      rotate_left
      · intro w
        go_simp
        try with_reducible rfl
      go_simp
      refine wpAny_take (i := 15) (v := ?_) rfl (by kernel_rfl) (by kernel_rfl) (by kernel_rfl) (fun _ _ _ h => h) (Or.inl ⟨by rfl, ?_⟩) ?_
      rotate_left
      · intro w
        go_simp
        try with_reducible rfl
      go_simp
      refine wpAny_ready (rs := [3]) (by kernel_rfl) (by simp) ?_
      refine AllReady.cons rfl (fun K hK => ?_) ?_
      · go_simp
        go_wp2_with (go_at_call 10; refine (sum_any L _ i i _ HLL.out HRL.out.drew (by omega)).mono ?_; rw [HUP.out]; rintro e w5 ⟨rfl, hb⟩; have Hw5 : Hid (Below w.heap.size w w5) := HBW.out.trans (below_undrew (hb.mono HBW.out.size)); clear hb)
        try (refine hK _ _ ?_)
        try clear hK K
        refine wpAny_ready (rs := [7]) (by kernel_rfl) (by simp) ?_
        refine AllReady.cons rfl (fun K hK => ?_) ?_
        · go_simp
          go_wp2_with (go_at_call 10; refine (sum_any xs a0 i cap0 _ HY0.out (HR0.out.later Hw5.out) (by omega)).mono ?_; rw [HU0.out]; rintro e w6 ⟨rfl, hb⟩; have Hw6 : Hid (Below w.heap.size w w6) := Hw5.out.trans (hb.mono Hw5.out.size); clear hb)
          try (refine hK _ _ ?_)
          try clear hK K
          refine wpAny_ready (rs := [11]) (by kernel_rfl) (by simp) ?_
          refine AllReady.cons rfl (fun K hK => ?_) ?_
          · go_simp
            go_wp2_with (go_at_call 10; refine (sum_any ys a1 i cap1 _ HY1.out (HR1.out.later Hw6.out) (by omega)).mono ?_; rw [HU1.out]; rintro e w7 ⟨rfl, hb⟩; have Hw7 : Hid (Below w.heap.size w w7) := Hw6.out.trans (hb.mono Hw6.out.size); clear hb)
            try (refine hK _ _ ?_)
            try clear hK K
            refine wpAny_take (i := 12) (v := ?_) rfl (by kernel_rfl) (by kernel_rfl) (by kernel_rfl) (fun _ _ _ h => h) (Or.inl ⟨by rfl, ?_⟩) ?_
            rotate_left
            · intro w
              go_simp
              try with_reducible rfl
            go_simp
            refine wpAny_ready (rs := [16]) (by kernel_rfl) (by simp) ?_
            refine AllReady.cons rfl (fun K hK => ?_) ?_
            · go_simp
              go_wp2_with (go_at_call 10; refine (sum_any zs a2 i cap2 _ HY2.out (HR2.out.later Hw7.out) (by omega)).mono ?_; rw [HU2.out]; rintro e w8 ⟨rfl, hb⟩; have Hw8 : Hid (Below w.heap.size w w8) := Hw7.out.trans (hb.mono Hw7.out.size); clear hb)
              try (refine hK _ _ ?_)
              try clear hK K
              refine wpAny_take (i := 17) (v := ?_) rfl (by kernel_rfl) (by kernel_rfl) (by kernel_rfl) (fun _ _ _ h => h) (Or.inl ⟨by rfl, ?_⟩) ?_
              rotate_left
              · intro w
                go_simp
                try with_reducible rfl
              go_simp
              refine wpAny_take (i := 18) (v := ?_) rfl (by kernel_rfl) (by kernel_rfl) (by kernel_rfl) (fun _ _ _ h => h) (Or.inl ⟨by rfl, ?_⟩) ?_
              rotate_left
              · intro w
                go_simp
                try with_reducible rfl
              go_simp
              refine wpAny_take (i := 19) (v := ?_) rfl (by kernel_rfl) (by kernel_rfl) (by kernel_rfl) (fun _ _ _ h => h) (Or.inl ⟨by rfl, ?_⟩) ?_
              rotate_left
              · intro w
                go_simp
                try with_reducible rfl
              go_simp
              refine wpAny_take (i := 20) (v := ?_) rfl (by kernel_rfl) (by kernel_rfl) (by kernel_rfl) (fun _ _ _ h => h) (Or.inl ⟨by rfl, ?_⟩) ?_
              rotate_left
              · intro w
                go_simp
                try with_reducible rfl
              go_simp
              refine wpAny_done (by kernel_rfl) ?_ _
              go_wp2
              go_ret
              exact ⟨rfl, Hw8.out⟩
            exact AllReady.nil
          exact AllReady.nil
        exact AllReady.nil
      exact AllReady.nil
end Go.Proofs.Ytdfkoiblcebimaa
