/- The walk of First: the first character of bytes; memory stays as it was. -/
import Derived.Test.YtdoflmgdmcmmfaaUtfC
namespace Go.Proofs.Ytdoflmgdmcmmfaa
open Go.RowKit
set_option linter.unusedVariables false

theorem ret_int3 {k1 k2 k3 : IntKind} {a b c : Int} {t : Int × Int × Int} (h : t = (a, b, c)) : Ending.returned (.tuple #[.int k1 a, .int k2 b, .int k3 c]) = .returned (.tuple #[.int k1 t.1, .int k2 t.2.1, .int k3 t.2.2]) := by rw [h]

set_option maxRecDepth 100000 in
theorem nat_and192_all : ∀ n : Fin 256, n.val &&& 192 = n.val / 64 * 64 := by decide
theorem nat_and192 (n : Nat) (h : n < 256) : n &&& 192 = n / 64 * 64 := nat_and192_all ⟨n, h⟩
theorem u8_and192 (x : Int) (h0 : 0 ≤ x) (h1 : x ≤ 255) : bits .and .u8 x 192 = x / 64 * 64 := by
  rw [u8_and x 192 h0 (by omega) (by omega) (by omega)]
  have e : Int.toNat 192 = 192 := rfl
  have := nat_and192 x.toNat (by omega)
  rw [e, this]
  omega
theorem cont_no (x : Int) (h0 : 0 ≤ x) (h1 : x ≤ 255) (h : cont x = true) : (bits .and .u8 x 192 != 128) = false := by
  rw [u8_and192 x h0 h1]; simp [cont] at h; simp; omega
theorem cont_yes (x : Int) (h0 : 0 ≤ x) (h1 : x ≤ 255) (h : cont x = false) : (bits .and .u8 x 192 != 128) = true := by
  rw [u8_and192 x h0 h1]; simp [cont] at h; simp; omega
theorem begins_int (c s mi : Int) (m : Nat) (w : World) (h : mi = m) (h0 : 0 ≤ c) (hm : m ≤ 3) (h1 : c * 64 ^ m ≤ 2097151 - 64 ^ m + 1) :
    Calls Try.prog 24 #[.int .i32 c, .int .i64 s, .int .i64 mi] w fun e w' => e = .returned (.bool (bgs c s m)) ∧ w' = w := by
  subst h; exact begins_any c s m w h0 hm h1


set_option maxHeartbeats 1000000 in
theorem first_B (x : Int) (r : List Int) (b off len cap s t : Nat) (w : World) (hcap : len ≤ cap) (hm : cap ≤ 9223372036854775807)
    (hx0 : 0 ≤ x) (hx1 : x ≤ 255) (es : lds x = (s : Int)) (HT : Hid (t = (tl8 x r).length)) (hs1 : 1 ≤ s) (hs4 : s ≤ 4) (ht1 : t + 1 ≤ s) (ht2 : t + 1 ≤ len)
    (hc0 : w.cell? ⟨b, off, none⟩ = some (.int .u8 x))
    (hct : Hid (∀ k, k < (tl8 x r).length → w.cell? ⟨b, off + 1 + k, none⟩ = some (.int .u8 ((tl8 x r).getD k 0))))
    (hrt : Hid (∀ k, k < (tl8 x r).length → 0 ≤ (tl8 x r).getD k 0 ∧ (tl8 x r).getD k 0 ≤ 255))
    (HB : Hid (∀ k, k ≤ (tl8 x r).length → 0 ≤ fz (ldc x) ((tl8 x r).take k) ∧ fz (ldc x) ((tl8 x r).take k) * 64 ^ ((lds x).toNat - 1 - k) ≤ 2097151 - 64 ^ ((lds x).toNat - 1 - k) + 1 ∧ (k < (tl8 x r).length → fz (ldc x) ((tl8 x r).take k) ≤ 32767)))
    (hc1 : 1 < cap) (h3 : s ≤ t + 1) (h4 : s ≤ len) :
    Calls Try.prog 12 #[.slice (some ⟨b, off, none⟩) len cap] w fun e w' => e = .returned (.tuple #[.int .i32 (first (x :: r)).1, .int .i64 (first (x :: r)).2.1, .int .i64 (first (x :: r)).2.2]) ∧ w' = w := by
  have hne : ((len : Int) == 0) = false := by simp; omega
  have hpos : (0 : Int) < (len : Int) := by omega
  have hs' : ((s : Int) == 0) = false := by simp; omega
  have HES : Hid (lds x = (s : Int)) := es
  obtain ⟨F, hF⟩ : ∃ F, F = first (x :: r) := ⟨_, rfl⟩
  rw [← hF]
  have HF : Hid (F = first (x :: r)) := hF
  clear hF
  go_enter Try.func12, Try.ntmps12
  go_wp2_with (first | (go_at_call 23; refine (lead_any _ _ hx0 hx1).mono ?_; rintro e w' ⟨rfl, rfl⟩))
  go_loop [5, 30] (fun c i => ∃ k : Nat, k ≤ t ∧ i = .int .i64 k ∧ c = .int .i32 (fz (ldc x) ((tl8 x r).take k)) ∧ ((tl8 x r).take k).all cont = true) (fun _ i => len - (intOf i).toNat)
  case atStart => exact ⟨0, by omega, rfl, rfl, rfl⟩
  case round =>
    obtain ⟨k, hk1, rfl, rfl, hall⟩ := hrel
    obtain ⟨c, hcc⟩ : ∃ c, c = fz (ldc x) ((tl8 x r).take k) := ⟨_, rfl⟩
    have hcb := HB.out k (by have := HT.out; omega)
    rw [← hcc] at hcb ⊢
    have HCC : Hid (c = fz (ldc x) ((tl8 x r).take k)) := hcc
    have HALL : Hid (((tl8 x r).take k).all cont = true) := hall
    have hcb0 : 0 ≤ c := hcb.1
    have HCB : Hid (c * 64 ^ ((lds x).toNat - 1 - k) ≤ 2097151 - 64 ^ ((lds x).toNat - 1 - k) + 1) := hcb.2.1
    have HCB2 : Hid (k < (tl8 x r).length → c ≤ 32767) := hcb.2.2
    clear hcc hall hcb
    by_cases hlt : k < t
    · have HLT : Hid (k < (tl8 x r).length) := by have := HT.out; show k < (tl8 x r).length; omega
      have hcb3 := HCB2.out HLT.out
      have hy := hrt.out k HLT.out
      have hcell := hct.out k HLT.out
      obtain ⟨y, hyd⟩ : ∃ y, y = (tl8 x r).getD k 0 := ⟨_, rfl⟩
      rw [← hyd] at hy hcell
      have hy0 : 0 ≤ y := hy.1
      have hy1 : y ≤ 255 := hy.2
      have HY : Hid (y = (tl8 x r).getD k 0) := hyd
      clear hyd hy
      by_cases hcy : cont y = true
      · have hbt := cont_no y hy0 hy1 hcy
        have HCY : Hid (cont y = true) := hcy
        clear hcy
        go_wp2
        go_round
        case rel => exact ⟨k + 1, by omega, by go_num, by rw [fz_take _ _ _ HLT.out, ← HCC.out, ← HY.out], by rw [all_take _ _ HLT.out, HALL.out, ← HY.out, HCY.out]; rfl⟩
        case measure => simp [intOf]; omega
      · have hbt := cont_yes y hy0 hy1 (by simpa using hcy)
        have HCY : Hid (cont y = false) := by show cont y = false; simpa using hcy
        clear hcy
        go_wp2
        go_ret3
        exact ⟨ret_int3 (by rw [HF.out]; exact first_cut x r (by rw [HES.out]; omega) k HLT.out (by rw [← HY.out]; exact HCY.out)), rfl⟩
    · obtain rfl : k = t := by omega
      have e1 : (tl8 x r).take k = tl8 x r := List.take_of_length_le (by have := HT.out; omega)
      have HALL2 : Hid ((tl8 x r).all cont = true) := by have := HALL.out; rw [e1] at this; exact this
      have HCC2 : Hid (c = fz (ldc x) (tl8 x r)) := by have := HCC.out; rw [e1] at this; exact this
      clear e1 HALL HCC
      obtain ⟨bg, hbg⟩ : ∃ bg, bg = bgs c s (s - 1 - k) := ⟨_, rfl⟩
      have HBG : Hid (bg = bgs c s (s - 1 - k)) := hbg
      have HN : Hid ((lds x).toNat = s) := by show (lds x).toNat = s; rw [HES.out]; rfl
      have HG : Hid (bg = bgs (fz (ldc x) (tl8 x r)) (lds x) ((lds x).toNat - 1 - (tl8 x r).length)) := by
        show bg = _; rw [hbg, ← HCC2.out, HN.out, HES.out, ← HT.out]
      clear hbg
      go_wp2_with (first | (go_at_call 24; refine (begins_int c s _ (s - 1 - k) _ (by omega) hcb0 (by omega) (by have := HCB.out; rw [HN.out] at this; exact this)).mono ?_; rw [← HBG.out]; rintro e w' ⟨rfl, rfl⟩; cases bg))
      all_goals go_ret3
      · exact ⟨ret_int3 (by rw [HF.out]; exact first_nb x r (by rw [HES.out]; omega) HALL2.out HG.out.symm), rfl⟩
      · exact ⟨ret_int3 (by rw [HF.out]; rw [first_ok x r (by rw [HES.out]; omega) HALL2.out HG.out.symm (by have := HT.out; rw [HN.out]; omega), ← HCC2.out, HES.out]), rfl⟩

set_option maxHeartbeats 1000000 in
theorem first_C (x : Int) (r : List Int) (b off len cap s t : Nat) (w : World) (hcap : len ≤ cap) (hm : cap ≤ 9223372036854775807)
    (hx0 : 0 ≤ x) (hx1 : x ≤ 255) (es : lds x = (s : Int)) (HT : Hid (t = (tl8 x r).length)) (hs1 : 1 ≤ s) (hs4 : s ≤ 4) (ht1 : t + 1 ≤ s) (ht2 : t + 1 ≤ len)
    (hc0 : w.cell? ⟨b, off, none⟩ = some (.int .u8 x))
    (hct : Hid (∀ k, k < (tl8 x r).length → w.cell? ⟨b, off + 1 + k, none⟩ = some (.int .u8 ((tl8 x r).getD k 0))))
    (hrt : Hid (∀ k, k < (tl8 x r).length → 0 ≤ (tl8 x r).getD k 0 ∧ (tl8 x r).getD k 0 ≤ 255))
    (HB : Hid (∀ k, k ≤ (tl8 x r).length → 0 ≤ fz (ldc x) ((tl8 x r).take k) ∧ fz (ldc x) ((tl8 x r).take k) * 64 ^ ((lds x).toNat - 1 - k) ≤ 2097151 - 64 ^ ((lds x).toNat - 1 - k) + 1 ∧ (k < (tl8 x r).length → fz (ldc x) ((tl8 x r).take k) ≤ 32767)))
    (hc1 : 1 < cap) (h3 : len ≤ t + 1) (h4 : len < s) :
    Calls Try.prog 12 #[.slice (some ⟨b, off, none⟩) len cap] w fun e w' => e = .returned (.tuple #[.int .i32 (first (x :: r)).1, .int .i64 (first (x :: r)).2.1, .int .i64 (first (x :: r)).2.2]) ∧ w' = w := by
  have hne : ((len : Int) == 0) = false := by simp; omega
  have hpos : (0 : Int) < (len : Int) := by omega
  have hs' : ((s : Int) == 0) = false := by simp; omega
  have HES : Hid (lds x = (s : Int)) := es
  obtain ⟨F, hF⟩ : ∃ F, F = first (x :: r) := ⟨_, rfl⟩
  rw [← hF]
  have HF : Hid (F = first (x :: r)) := hF
  clear hF
  go_enter Try.func12, Try.ntmps12
  go_wp2_with (first | (go_at_call 23; refine (lead_any _ _ hx0 hx1).mono ?_; rintro e w' ⟨rfl, rfl⟩))
  go_loop [5, 30] (fun c i => ∃ k : Nat, k ≤ t ∧ i = .int .i64 k ∧ c = .int .i32 (fz (ldc x) ((tl8 x r).take k)) ∧ ((tl8 x r).take k).all cont = true) (fun _ i => len - (intOf i).toNat)
  case atStart => exact ⟨0, by omega, rfl, rfl, rfl⟩
  case round =>
    obtain ⟨k, hk1, rfl, rfl, hall⟩ := hrel
    obtain ⟨c, hcc⟩ : ∃ c, c = fz (ldc x) ((tl8 x r).take k) := ⟨_, rfl⟩
    have hcb := HB.out k (by have := HT.out; omega)
    rw [← hcc] at hcb ⊢
    have HCC : Hid (c = fz (ldc x) ((tl8 x r).take k)) := hcc
    have HALL : Hid (((tl8 x r).take k).all cont = true) := hall
    have hcb0 : 0 ≤ c := hcb.1
    have HCB : Hid (c * 64 ^ ((lds x).toNat - 1 - k) ≤ 2097151 - 64 ^ ((lds x).toNat - 1 - k) + 1) := hcb.2.1
    have HCB2 : Hid (k < (tl8 x r).length → c ≤ 32767) := hcb.2.2
    clear hcc hall hcb
    by_cases hlt : k < t
    · have HLT : Hid (k < (tl8 x r).length) := by have := HT.out; show k < (tl8 x r).length; omega
      have hcb3 := HCB2.out HLT.out
      have hy := hrt.out k HLT.out
      have hcell := hct.out k HLT.out
      obtain ⟨y, hyd⟩ : ∃ y, y = (tl8 x r).getD k 0 := ⟨_, rfl⟩
      rw [← hyd] at hy hcell
      have hy0 : 0 ≤ y := hy.1
      have hy1 : y ≤ 255 := hy.2
      have HY : Hid (y = (tl8 x r).getD k 0) := hyd
      clear hyd hy
      by_cases hcy : cont y = true
      · have hbt := cont_no y hy0 hy1 hcy
        have HCY : Hid (cont y = true) := hcy
        clear hcy
        go_wp2
        go_round
        case rel => exact ⟨k + 1, by omega, by go_num, by rw [fz_take _ _ _ HLT.out, ← HCC.out, ← HY.out], by rw [all_take _ _ HLT.out, HALL.out, ← HY.out, HCY.out]; rfl⟩
        case measure => simp [intOf]; omega
      · have hbt := cont_yes y hy0 hy1 (by simpa using hcy)
        have HCY : Hid (cont y = false) := by show cont y = false; simpa using hcy
        clear hcy
        go_wp2
        go_ret3
        exact ⟨ret_int3 (by rw [HF.out]; exact first_cut x r (by rw [HES.out]; omega) k HLT.out (by rw [← HY.out]; exact HCY.out)), rfl⟩
    · obtain rfl : k = t := by omega
      have e1 : (tl8 x r).take k = tl8 x r := List.take_of_length_le (by have := HT.out; omega)
      have HALL2 : Hid ((tl8 x r).all cont = true) := by have := HALL.out; rw [e1] at this; exact this
      have HCC2 : Hid (c = fz (ldc x) (tl8 x r)) := by have := HCC.out; rw [e1] at this; exact this
      clear e1 HALL HCC
      obtain ⟨bg, hbg⟩ : ∃ bg, bg = bgs c s (s - 1 - k) := ⟨_, rfl⟩
      have HBG : Hid (bg = bgs c s (s - 1 - k)) := hbg
      have HN : Hid ((lds x).toNat = s) := by show (lds x).toNat = s; rw [HES.out]; rfl
      have HG : Hid (bg = bgs (fz (ldc x) (tl8 x r)) (lds x) ((lds x).toNat - 1 - (tl8 x r).length)) := by
        show bg = _; rw [hbg, ← HCC2.out, HN.out, HES.out, ← HT.out]
      clear hbg
      go_wp2_with (first | (go_at_call 24; refine (begins_int c s _ (s - 1 - k) _ (by omega) hcb0 (by omega) (by have := HCB.out; rw [HN.out] at this; exact this)).mono ?_; rw [← HBG.out]; rintro e w' ⟨rfl, rfl⟩; cases bg))
      all_goals go_ret3
      · exact ⟨ret_int3 (by rw [HF.out]; exact first_nb x r (by rw [HES.out]; omega) HALL2.out HG.out.symm), rfl⟩
      · exact ⟨ret_int3 (by rw [HF.out]; exact first_short x r (by rw [HES.out]; omega) HALL2.out HG.out.symm (by have := HT.out; rw [HN.out]; omega)), rfl⟩

set_option maxHeartbeats 1000000 in
theorem first_A (x : Int) (b off : Nat) (w : World) (hx0 : 0 ≤ x) (hx1 : x ≤ 255) (hs1 : lds x ≠ 0)
    (hc0 : w.cell? ⟨b, off, none⟩ = some (.int .u8 x)) :
    Calls Try.prog 12 #[.slice (some ⟨b, off, none⟩) 1 1] w fun e w' => e = .returned (.tuple #[.int .i32 (first [x]).1, .int .i64 (first [x]).2.1, .int .i64 (first [x]).2.2]) ∧ w' = w := by
  have hld := ld_le x hx0 hx1
  have hbd := tl8_bd x [] hx0 hx1 hs1 0 (by omega)
  have e0 : tl8 x [] = [] := by simp [tl8]
  rw [e0] at hbd
  have HBD : Hid (ldc x * 64 ^ ((lds x).toNat - 1 - 0) ≤ 2097151 - 64 ^ ((lds x).toNat - 1 - 0) + 1) := by show ldc x * 64 ^ ((lds x).toNat - 1 - 0) ≤ _; simpa [fz] using hbd.2.1
  obtain ⟨s, es⟩ : ∃ s : Nat, lds x = (s : Int) := ⟨(lds x).toNat, by omega⟩
  have h1 : 1 ≤ s := by omega
  have h4 : s ≤ 4 := by omega
  have hs' : ((s : Int) == 0) = false := by simp; omega
  have hc : 0 ≤ ldc x := hld.2.2.1
  have HES : Hid (lds x = (s : Int)) := es
  have HN : Hid ((lds x).toNat = s) := by show (lds x).toNat = s; rw [HES.out]; rfl
  obtain ⟨bg, hbg⟩ : ∃ bg, bg = bgs (ldc x) s (s - 1) := ⟨_, rfl⟩
  have HBG : Hid (bg = bgs (ldc x) s (s - 1)) := hbg
  obtain ⟨F, hF⟩ : ∃ F, F = first [x] := ⟨_, rfl⟩
  rw [← hF]
  have HF : Hid (F = first [x]) := hF
  have G : first [x] = if bg then (if 0 < s - 1 then (0, 0, 6) else (ldc x, (s : Int), 0)) else (0, 0, 2) := by
    have hs2 : ¬ (s : Int) = 0 := by omega
    simp only [first]
    rw [hbg, e0, HN.out, es, if_neg hs2]
    simp [fz]
    rfl
  have HG : Hid (first [x] = if bg then (if 0 < s - 1 then (0, 0, 6) else (ldc x, (s : Int), 0)) else (0, 0, 2)) := G
  clear G hF hbg hbd e0 hld hs1
  by_cases h2 : s = 1
  · subst h2
    go_enter Try.func12, Try.ntmps12
    go_wp2_with (first | (go_at_call 23; refine (lead_any _ _ hx0 hx1).mono ?_; rintro e w' ⟨rfl, rfl⟩))
    refine wp_loop_rounds 1 ?_
    rw [rounds_succ]
    go_wp2_with (first | (go_at_call 24; refine (begins_int (ldc x) 1 _ 0 _ (by omega) hc (by omega) (by have := HBD.out; rw [HN.out] at this; exact this)).mono ?_; rw [show bgs (ldc x) 1 0 = bg from HBG.out.symm]; rintro e w' ⟨rfl, rfl⟩; cases bg))
    all_goals go_ret3
    · exact ⟨ret_int3 (by rw [HF.out, HG.out]; rfl), rfl⟩
    · exact ⟨ret_int3 (by rw [HF.out, HG.out]; rfl), rfl⟩
  · have h3 : 1 < s := by omega
    go_enter Try.func12, Try.ntmps12
    go_wp2_with (first | (go_at_call 23; refine (lead_any _ _ hx0 hx1).mono ?_; rintro e w' ⟨rfl, rfl⟩))
    refine wp_loop_rounds 1 ?_
    rw [rounds_succ]
    go_wp2_with (first | (go_at_call 24; refine (begins_int (ldc x) s _ (s - 1) _ (by omega) hc (by omega) (by have := HBD.out; rw [HN.out] at this; exact this)).mono ?_; rw [← HBG.out]; rintro e w' ⟨rfl, rfl⟩; cases bg))
    all_goals go_ret3
    · exact ⟨ret_int3 (by rw [HF.out, HG.out]; rfl), rfl⟩
    · exact ⟨ret_int3 (by rw [HF.out, HG.out]; simp only [if_true]; rw [if_pos (by omega)]), rfl⟩

theorem first_some (x : Int) (r : List Int) (b off len cap : Nat) (w : World) (hl : r.length + 1 = len) (hcap : len ≤ cap) (hm : cap ≤ 9223372036854775807)
    (hr : ∀ y ∈ x :: r, 0 ≤ y ∧ y ≤ 255) (hc : ∀ i, i < len → w.cell? ⟨b, off + i, none⟩ = some (.int .u8 ((x :: r).getD i 0))) :
    Calls Try.prog 12 #[.slice (some ⟨b, off, none⟩) len cap] w fun e w' => e = .returned (.tuple #[.int .i32 (first (x :: r)).1, .int .i64 (first (x :: r)).2.1, .int .i64 (first (x :: r)).2.2]) ∧ w' = w := by
  have hx := hr x (by simp)
  have hx0 : 0 ≤ x := hx.1
  have hx1 : x ≤ 255 := hx.2
  have hld := ld_le x hx0 hx1
  have hc0 : w.cell? ⟨b, off, none⟩ = some (.int .u8 x) := by simpa using hc 0 (by omega)
  have hct : Hid (∀ k, k < (tl8 x r).length → w.cell? ⟨b, off + 1 + k, none⟩ = some (.int .u8 ((tl8 x r).getD k 0))) := by
    intro k hk
    have hk2 := tl8_len x r
    have := hc (k + 1) (by omega)
    rw [show off + 1 + k = off + (k + 1) by omega, this]
    congr 2
    have : k < (lds x).toNat - 1 := by omega
    simp [tl8, this]
  have hrt : Hid (∀ k, k < (tl8 x r).length → 0 ≤ (tl8 x r).getD k 0 ∧ (tl8 x r).getD k 0 ≤ 255) := by
    intro k hk
    refine hr _ (List.mem_cons_of_mem _ ?_)
    have h1 : (tl8 x r).getD k 0 ∈ tl8 x r := by simp [hk]
    exact List.mem_of_mem_take h1
  have HL := tl8_len x r
  by_cases hs : lds x = 0
  · have hs' : (lds x == 0) = true := by simpa using hs
    have hne : ((len : Int) == 0) = false := by simp; omega
    have hpos : (0 : Int) < (len : Int) := by omega
    have HS : Hid (lds x = 0) := hs
    clear hc hr hct hrt HL hld hx
    go_enter Try.func12, Try.ntmps12
    go_wp2_with (first | (go_at_call 23; refine (lead_any _ _ hx0 hx1).mono ?_; rintro e w' ⟨rfl, rfl⟩))
    go_ret3
    exact ⟨ret_int3 (first_bad x r HS.out), rfl⟩
  · have HB : Hid (∀ k, k ≤ (tl8 x r).length → 0 ≤ fz (ldc x) ((tl8 x r).take k) ∧ fz (ldc x) ((tl8 x r).take k) * 64 ^ ((lds x).toNat - 1 - k) ≤ 2097151 - 64 ^ ((lds x).toNat - 1 - k) + 1 ∧ (k < (tl8 x r).length → fz (ldc x) ((tl8 x r).take k) ≤ 32767)) := fun k hk => tl8_bd x r hx0 hx1 hs k hk
    have es : lds x = (((lds x).toNat : Nat) : Int) := by omega
    by_cases h1 : cap = 1
    · obtain rfl : r = [] := by cases r with
        | nil => rfl
        | cons a r => simp at hl; omega
      obtain rfl : len = 1 := by simpa using hl.symm
      subst h1
      exact first_A x b off w hx0 hx1 hs hc0
    · by_cases h2 : (lds x).toNat ≤ len
      · exact first_B x r b off len cap (lds x).toNat (tl8 x r).length w hcap hm hx0 hx1 es rfl (by omega) (by omega) (by omega) (by omega) hc0 hct hrt HB (by omega) (by omega) h2
      · exact first_C x r b off len cap (lds x).toNat (tl8 x r).length w hcap hm hx0 hx1 es rfl (by omega) (by omega) (by omega) (by omega) hc0 hct hrt HB (by omega) (by omega) (by omega)

theorem first_nil (a : Option Addr) (cap : Nat) (w : World) :
    Calls Try.prog 12 #[.slice a 0 cap] w fun e w' => e = .returned (.tuple #[.int .i32 (first []).1, .int .i64 (first []).2.1, .int .i64 (first []).2.2]) ∧ w' = w := by
  go_enter Try.func12, Try.ntmps12
  go_wp2
  go_ret3
  exact ⟨rfl, rfl⟩

/-- FIRST, of any bytes that can be read. -/
theorem first_any (bs : List Int) (a : Option Addr) (len cap : Nat) (w : World) (hcap : len ≤ cap) (hm : cap ≤ 9223372036854775807) (hr : ∀ y ∈ bs, 0 ≤ y ∧ y ≤ 255) (hrd : Rd .u8 w a len bs) :
    Calls Try.prog 12 #[.slice a len cap] w fun e w' => e = .returned (.tuple #[.int .i32 (first bs).1, .int .i64 (first bs).2.1, .int .i64 (first bs).2.2]) ∧ w' = w := by
  obtain ⟨hl, hc⟩ := hrd
  cases bs with
  | nil => obtain rfl : len = 0 := by simpa using hl.symm
           exact first_nil a cap w
  | cons x r =>
    obtain ⟨b, off, rfl, hcc⟩ := hc (by simp at hl; omega)
    exact first_some x r b off len cap w (by simpa using hl) hcap hm hr hcc
end Go.Proofs.Ytdoflmgdmcmmfaa
