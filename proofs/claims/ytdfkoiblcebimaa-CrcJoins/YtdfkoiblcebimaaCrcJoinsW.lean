/- The walk of CrcJoins: whatever the bytes and the place: true. -/
import Derived.Test.YtdfkoiblcebimaaCrcN
import Derived.Deep.DeepCutAuto
import Derived.Deep.RegionWith
namespace Go.Proofs.Ytdfkoiblcebimaa
open Go.RowKit
set_option linter.unusedVariables false

theorem and_65535 (n : Int) : bits .and .i64 n 65535 = n % 65536 := and_low n 65535 16 (by decide) (by decide)
theorem up_snoc (xs : List Int) (i : Nat) (hb : ∀ y ∈ xs, 0 ≤ y ∧ y ≤ 255) : up (up 0 (xs.take i)) ((xs.drop i).take 1) = up 0 (xs.take (i + 1)) := by
  rw [← up_append 0 _ _ (by decide) (fun y hy => hb y (List.mem_of_mem_take hy)), List.take_add]

set_option maxRecDepth 100000 in
set_option maxHeartbeats 8000000 in
theorem crcJoins_walk (a0 : Option Addr) (len0 cap0 n : Nat) (xs : List Int) (at_ : Int) (w : World) (hc0 : len0 ≤ cap0) (hn : n = min len0 2000) (hr : Rd .u8 w a0 n xs) (hb : ∀ y ∈ xs, 0 ≤ y ∧ y ≤ 255) :
    Calls Try.prog 4 #[.slice a0 len0 cap0, .int .i64 at_] w fun e w' => e = .returned (.bool true) ∧ Below w.heap.size w w' := by
  have HR : Hid (Rd .u8 w a0 n xs) := hr
  have HY : Hid (∀ y ∈ xs, 0 ≤ y ∧ y ≤ 255) := hb
  have HL : Hid (xs.length = n) := hr.1
  have hmin := min_run len0 n 2000 (by omega)
  have hcut := cut_bytes a0 len0 cap0 n (by omega)
  have hn2 : n ≤ 2000 := by omega
  have hnc : n ≤ cap0 := by omega
  have hand := and_65535 at_
  obtain ⟨k, hk⟩ : ∃ k : Nat, (k : Int) = at_ % 65536 % ((n : Int) + 1) := ⟨(at_ % 65536 % ((n : Int) + 1)).toNat, Int.toNat_of_nonneg (Int.emod_nonneg _ (by omega))⟩
  have hkn : k ≤ n := by have := Int.emod_lt_of_pos (at_ % 65536) (show (0 : Int) < (n : Int) + 1 by omega); omega
  have hk' := hk.symm
  have hne : (n : Int) + 1 ≠ 0 := by omega
  clear hr hb hn hk
  go_enter Try.func4, Try.ntmps4
  go_wp2_with fail
  refine (shown_any _).mono ?_
  rintro e w1 ⟨rfl, hb1⟩
  have HB1 : Hid (Below w.heap.size w w1) := hb1
  clear hb1
  go_wp2
  try simp only [hk']
  clear hk' hand hne hmin hcut
  go_loopw [7, 8] (fun x7 x8 wr => ∃ i : Nat, i ≤ n ∧ x8 = .int .i64 i ∧ x7 = .int .u32 (up 0 (xs.take i) : Nat) ∧ Below w.heap.size w wr) (fun _ x8 _ => n - (intOf x8).toNat)
  case atStart => exact ⟨0, by omega, rfl, by rw [List.take_zero, up_none 0 (by decide)]; rfl, HB1.out⟩
  case round =>
    obtain ⟨i, hin, hx8, hx7, hbel⟩ := hrel
    have HB : Hid (Below w.heap.size w wr) := hbel
    have hsl := up_lt 0 (xs.take i)
    have HSN : Hid (up (up 0 (xs.take i)) ((xs.drop i).take 1) = up 0 (xs.take (i + 1))) := up_snoc xs i HY.out
    obtain ⟨s, hs⟩ : ∃ s, s = up 0 (xs.take i) := ⟨_, rfl⟩
    rw [← hs] at hsl HSN hx7
    have HS : Hid (s = up 0 (xs.take i)) := hs
    subst hx7 hx8
    clear hbel hs
    by_cases hlt : i < n
    · obtain ⟨ai, hci, hri⟩ := cut_mid (HR.out.later HB.out) i (i + 1) (by omega) (by omega) hnc
      rw [show i + 1 - i = 1 by omega] at hci hri
      have hci' : ∀ W, (Instr.slice 22 (.slice a0 n cap0) (some (.int .i64 i)) (some (.int .i64 ((i : Int) + 1))) none).run Try.prog W = .ok (.slice ai 1 (cap0 - i)) W := fun W => hci W
      have HRI : Hid (Rd .u8 wr ai 1 ((xs.drop i).take 1)) := hri
      clear hci hri
      go_wp2_with fail
      refine (update_any s ((xs.drop i).take 1) ai 1 _ _ hsl (fun y hy => HY.out y (List.mem_of_mem_drop (List.mem_of_mem_take hy))) HRI.out (by omega)).mono ?_
      rw [HSN.out]
      rintro e w2 ⟨rfl, hb2⟩
      have HB2 : Hid (Below w.heap.size w w2) := HB.out.trans (hb2.mono HB.out.size)
      clear hb2
      go_wp2
      go_roundw
      case rel => exact ⟨i + 1, by omega, by go_num, rfl, HB2.out⟩
      case measure => simp [intOf]; omega
    · obtain rfl : i = n := by omega
      have HS1 : Hid (up 0 xs = s) := by show up 0 xs = s; rw [HS.out, List.take_of_length_le (by have := HL.out; omega)]
      have HS2 : Hid (up (up 0 (xs.take k)) (xs.drop k) = s) := by
        show _ = s
        rw [← up_append 0 _ _ (by decide) (fun y hy => HY.out y (List.mem_of_mem_take hy)), List.take_append_drop, HS1.out]
      have HS3 : Hid (up s [] = s) := up_none s hsl
      have htl := up_lt 0 (xs.take k)
      obtain ⟨t, ht⟩ : ∃ t, t = up 0 (xs.take k) := ⟨_, rfl⟩
      rw [← ht] at HS2 htl
      have HTT : Hid (up 0 (xs.take k) = t) := ht.symm
      have hck := cut_bytes a0 i cap0 k (by omega)
      obtain ⟨ad, hcd, hrd⟩ := cut_from HR.out k hkn hnc
      have HRD : Hid (Rd .u8 w ad (i - k) (xs.drop k)) := hrd
      have HRK : Hid (Rd .u8 w a0 k (xs.take k)) := HR.out.take k hkn
      clear ht hrd HSN HS HB1
      go_upto_region 9 with fail
      refine wp_region_any (by kernel_rfl) ?_
      try (change wpAny _ _ _ _ _ _ _ (World.drew _))
      refine wpAny_take (i := 0) (v := ?_) rfl (by kernel_rfl) (by kernel_rfl) (by kernel_rfl) (fun _ _ _ h => h) (Or.inl ⟨by rfl, ?_⟩) ?_
      rotate_left
      · intro w
        go_simp
        try with_reducible rfl
      go_simp
      refine wpAny_take (i := 1) (v := ?_) rfl (by kernel_rfl) (by kernel_rfl) (by kernel_rfl) (fun _ _ _ h => h) (Or.inl ⟨by rfl, ?_⟩) ?_
      rotate_left
      · intro w
        go_simp
        try with_reducible rfl
      go_simp
      refine wpAny_take (i := 2) (v := ?_) rfl (by kernel_rfl) (by kernel_rfl) (by kernel_rfl) (fun _ _ _ h => h) (Or.inl ⟨by rfl, ?_⟩) ?_
      rotate_left
      · intro w
        go_simp
        try with_reducible rfl
      go_simp
      refine wpAny_take (i := 3) (v := ?_) rfl (by kernel_rfl) (by kernel_rfl) (by kernel_rfl) (fun _ _ _ h => h) (Or.inl ⟨by rfl, ?_⟩) ?_
      rotate_left
      · intro w
        go_simp
        try with_reducible rfl
      go_simp
      refine wpAny_take (i := 4) (v := ?_) rfl (by kernel_rfl) (by kernel_rfl) (by kernel_rfl) (fun _ _ _ h => h) (Or.inl ⟨by rfl, ?_⟩) ?_
      rotate_left
      · intro w
        go_simp
        try with_reducible rfl
      go_simp
      refine wpAny_take (i := 6) (v := ?_) rfl (by kernel_rfl) (by kernel_rfl) (by kernel_rfl) (fun _ _ _ h => h) (Or.inl ⟨by rfl, ?_⟩) ?_
      rotate_left
      · intro w
        go_simp
        try with_reducible rfl
      go_simp
      refine wpAny_take (i := 7) (v := ?_) rfl (by kernel_rfl) (by kernel_rfl) (by kernel_rfl) (fun _ _ _ h => h) (Or.inl ⟨by rfl, ?_⟩) ?_
      rotate_left
      · intro w
        go_simp
        try with_reducible rfl
      go_simp
      refine wpAny_take (i := 8) (v := ?_) rfl (by kernel_rfl) (by kernel_rfl) (by kernel_rfl) (fun _ _ _ h => h) (Or.inl ⟨by rfl, ?_⟩) ?_
      rotate_left
      · intro w
        go_simp
        try with_reducible rfl
      go_simp
      refine wpAny_take (i := 10) (v := ?_) rfl (by kernel_rfl) (by kernel_rfl) (by kernel_rfl) (fun _ _ _ h => h) (Or.inl ⟨by rfl, ?_⟩) ?_
      rotate_left
      · intro w
        go_simp
        try with_reducible rfl
      go_simp
      refine wpAny_ready (rs := [5]) (by kernel_rfl) (by simp) ?_
      refine AllReady.cons rfl (fun K hK => ?_) ?_
      · go_simp
        go_wp2_with (go_at_call 10; refine (sum_any (xs.take k) a0 k cap0 _ (fun y hy => HY.out y (List.mem_of_mem_take hy)) (HRK.out.later HB.out).drew (by omega)).mono ?_; rw [HTT.out]; rintro e w5 ⟨rfl, hb⟩; have Hw5 : Hid (Below w.heap.size w w5) := HB.out.trans (below_undrew (hb.mono HB.out.size)); clear hb)
        try (refine hK _ _ ?_)
        try clear hK K
        refine wpAny_ready (rs := [9]) (by kernel_rfl) (by simp) ?_
        refine AllReady.cons rfl (fun K hK => ?_) ?_
        · go_simp
          go_wp2_with (go_at_call 11; refine (update_any t (xs.drop k) ad (i - k) _ _ htl (fun y hy => HY.out y (List.mem_of_mem_drop hy)) (HRD.out.later Hw5.out) (by omega)).mono ?_; rw [HS2.out]; rintro e w6 ⟨rfl, hb⟩; have Hw6 : Hid (Below w.heap.size w w6) := Hw5.out.trans (hb.mono Hw5.out.size); clear hb)
          try (refine hK _ _ ?_)
          try clear hK K
          refine wpAny_ready (rs := [11]) (by kernel_rfl) (by simp) ?_
          refine AllReady.cons rfl (fun K hK => ?_) ?_
          · go_simp
            go_wp2_with (go_at_call 10; refine (sum_any xs a0 i cap0 _ HY.out (HR.out.later Hw6.out) (by omega)).mono ?_; rw [HS1.out]; rintro e w7 ⟨rfl, hb⟩; have Hw7 : Hid (Below w.heap.size w w7) := Hw6.out.trans (hb.mono Hw6.out.size); clear hb)
            try (refine hK _ _ ?_)
            try clear hK K
            refine wpAny_take (i := 12) (v := ?_) rfl (by kernel_rfl) (by kernel_rfl) (by kernel_rfl) (fun _ _ _ h => h) (Or.inl ⟨by rfl, ?_⟩) ?_
            rotate_left
            · intro w
              go_simp
              try with_reducible rfl
            go_simp
            refine wpAny_take (i := 13) (v := ?_) rfl (by kernel_rfl) (by kernel_rfl) (by kernel_rfl) (fun _ _ _ h => h) (Or.inl ⟨by rfl, ?_⟩) ?_
            rotate_left
            · intro w
              go_simp
              try with_reducible rfl
            go_simp
            refine wpAny_take (i := 14) (v := ?_) rfl (by kernel_rfl) (by kernel_rfl) (by kernel_rfl) (fun _ _ _ h => h) (Or.inl ⟨by rfl, ?_⟩) ?_
            rotate_left
            · intro w
              go_simp
              try with_reducible rfl
            go_simp
            refine wpAny_take (i := 15) (v := ?_) rfl (by kernel_rfl) (by kernel_rfl) (by kernel_rfl) (fun _ _ _ h => h) (Or.inl ⟨by rfl, ?_⟩) ?_
            rotate_left
            · intro w
              go_simp
              try with_reducible rfl
            go_simp
            refine wpAny_take (i := 16) (v := ?_) rfl (by kernel_rfl) (by kernel_rfl) (by kernel_rfl) (fun _ _ _ h => h) (Or.inl ⟨by rfl, ?_⟩) ?_
            rotate_left
            · intro w
              go_simp
              try with_reducible rfl
            go_simp
            refine wpAny_ready (rs := [17]) (by kernel_rfl) (by simp) ?_
            refine AllReady.cons rfl (fun K hK => ?_) ?_
            · go_simp
              go_wp2_with (go_at_call 10; refine (sum_any xs a0 i cap0 _ HY.out (HR.out.later Hw7.out) (by omega)).mono ?_; rw [HS1.out]; rintro e w8 ⟨rfl, hb⟩; have Hw8 : Hid (Below w.heap.size w w8) := Hw7.out.trans (hb.mono Hw7.out.size); clear hb)
              try (refine hK _ _ ?_)
              try clear hK K
              refine wpAny_take (i := 18) (v := ?_) rfl (by kernel_rfl) (by kernel_rfl) (by kernel_rfl) (fun _ _ _ h => h) (Or.inl ⟨by rfl, ?_⟩) ?_
              rotate_left
              · intro w
                go_simp
                try with_reducible rfl
              go_simp
              refine wpAny_take (i := 19) (v := ?_) rfl (by kernel_rfl) (by kernel_rfl) (by kernel_rfl) (fun _ _ _ h => h) (Or.inl ⟨by rfl, ?_⟩) ?_
              rotate_left
              · intro w
                go_simp
                try with_reducible rfl
              go_simp
              refine wpAny_take (i := 20) (v := ?_) rfl (by kernel_rfl) (by kernel_rfl) (by kernel_rfl) (fun _ _ _ h => h) (Or.inl ⟨by rfl, ?_⟩) ?_
              rotate_left
              · intro w
                go_simp
                try with_reducible rfl
              go_simp
              refine wpAny_take (i := 21) (v := ?_) rfl (by kernel_rfl) (by kernel_rfl) (by kernel_rfl) (fun _ _ _ h => h) (Or.inl ⟨by rfl, ?_⟩) ?_
              rotate_left
              · intro w
                go_simp
                try with_reducible rfl
              go_simp
              refine wpAny_take (i := 23) (v := ?_) rfl (by kernel_rfl) (by kernel_rfl) (by kernel_rfl) (fun _ _ _ h => h) (Or.inl ⟨by rfl, ?_⟩) ?_
              rotate_left
              · intro w
                go_simp
                try with_reducible rfl
              go_simp
              refine wpAny_ready (rs := [22]) (by kernel_rfl) (by simp) ?_
              refine AllReady.cons rfl (fun K hK => ?_) ?_
              · go_simp
                go_wp2_with (go_at_call 11; refine (update_any s [] none 0 0 _ hsl (by simp) (rd_nil _ _) (by omega)).mono ?_; rw [HS3.out]; rintro e w9 ⟨rfl, hb⟩; have Hw9 : Hid (Below w.heap.size w w9) := Hw8.out.trans (hb.mono Hw8.out.size); clear hb)
                try (refine hK _ _ ?_)
                try clear hK K
                refine wpAny_take (i := 24) (v := ?_) rfl (by kernel_rfl) (by kernel_rfl) (by kernel_rfl) (fun _ _ _ h => h) (Or.inl ⟨by rfl, ?_⟩) ?_
                rotate_left
                · intro w
                  go_simp
                  try with_reducible rfl
                go_simp
                refine wpAny_take (i := 25) (v := ?_) rfl (by kernel_rfl) (by kernel_rfl) (by kernel_rfl) (fun _ _ _ h => h) (Or.inl ⟨by rfl, ?_⟩) ?_
                rotate_left
                · intro w
                  go_simp
                  try with_reducible rfl
                go_simp
                refine wpAny_take (i := 26) (v := ?_) rfl (by kernel_rfl) (by kernel_rfl) (by kernel_rfl) (fun _ _ _ h => h) (Or.inl ⟨by rfl, ?_⟩) ?_
                rotate_left
                · intro w
                  go_simp
                  try with_reducible rfl
                go_simp
                refine wpAny_done (by kernel_rfl) ?_ _
                go_wp2
                go_ret
                exact ⟨rfl, Hw9.out⟩
              exact AllReady.nil
            exact AllReady.nil
          exact AllReady.nil
        exact AllReady.nil
      exact AllReady.nil
end Go.Proofs.Ytdfkoiblcebimaa
