/- The walk of PackNever: whatever the bytes, the number and the byte: true. -/
import Derived.Test.YtefikaldfbidkabPackE
namespace Go.Proofs.Ytefikaldfbidkab
open Go.RowKit
set_option linter.unusedVariables false

theorem and_15 (n : Int) : bits .and .i64 n 15 = n % 16 := and_low n 15 4 (by decide) (by decide)
theorem or8_all : ∀ n : Fin 256, bits .or .u8 (n.val : Int) 128 = 128 + (n.val : Int) % 128 := by decide +kernel
theorem or8_128 (x : Int) (h0 : 0 ≤ x) (h1 : x ≤ 255) : bits .or .u8 x 128 = 128 + x % 128 := by
  have h := or8_all ⟨x.toNat, by omega⟩
  simp only [Int.toNat_of_nonneg h0] at h
  exact h
/-- The bytes with their highest bit set. -/
def hi8 (l : List Int) : List Int := l.map fun x => 128 + x % 128
theorem hi8_len (l : List Int) : (hi8 l).length = l.length := by simp [hi8]
theorem hi8_rng (l : List Int) : ∀ y ∈ hi8 l, 128 ≤ y ∧ y ≤ 255 := by
  intro y hy; simp [hi8] at hy; obtain ⟨x, _, rfl⟩ := hy; omega
theorem hi8_take (l : List Int) (k : Nat) (h : k < l.length) : hi8 (l.take (k + 1)) = hi8 (l.take k) ++ [128 + l.getD k 0 % 128] := by
  unfold hi8
  rw [List.take_add_one, List.map_append, List.getElem?_eq_getElem h]
  simp [h]

set_option maxHeartbeats 2000000 in
theorem packNever_walk (a0 : Option Addr) (len0 cap0 : Nat) (ls : List Int) (many c0 : Int) (w : World) (hc0 : len0 ≤ cap0) (hm0 : cap0 ≤ 9223372036854775807) (hr0 : Rd .u8 w a0 len0 ls) (hb0 : ∀ y ∈ ls, 0 ≤ y ∧ y ≤ 255)
    (hq0 : 0 ≤ c0) (hq1 : c0 ≤ 255) :
    Calls Try.prog 3 #[.slice a0 len0 cap0, .int .i64 many, .int .u8 c0] w fun e w' => e = .returned (.bool true) ∧ Below w.heap.size w w' := by
  obtain ⟨i0, hi, hzz0, hzz1, hzz2⟩ := info_parts info_u8
  have HR0 : Hid (Rd .u8 w a0 len0 ls) := hr0
  have HY0 : Hid (∀ y ∈ ls, 0 ≤ y ∧ y ≤ 255) := hb0
  have HL0 : Hid (ls.length = len0) := hr0.1
  have hand15 := and_15 many
  have hand127 := and8_127 c0 hq0 hq1
  clear hr0 hb0
  go_enter Try.func3, Try.ntmps3
  go_wp2_with (first | (go_at_call 4; refine (shown_any _).mono ?_; rintro e w1 ⟨rfl, hb1⟩; have HB1 : Hid (Below w.heap.size w w1) := hb1; clear hb1))
  go_loopw [8, 9] (fun x8 x9 wr => ∃ k : Nat, k ≤ len0 ∧ k ≤ 12 ∧ x9 = .int .i64 k ∧ wr.ownsRow w1.heap.size 5 1 x8 k ((hi8 (ls.take k)).map (Value.int .u8)) ∧ Below w1.heap.size w1 wr) (fun _ x9 _ => 12 - (intOf x9).toNat)
  case atStart => exact ⟨0, by omega, by omega, rfl, World.ownsRow_nil _ _ _ _, Below.refl _ _⟩
  case round =>
    obtain ⟨k, hk1, hk2, hx9, hown, hbel⟩ := hrel
    subst hx9
    have HB : Hid (Below w1.heap.size w1 wr) := hbel
    have HBW : Hid (Below w.heap.size w wr) := HB1.out.trans (HB.out.mono HB1.out.size)
    have hsz := hbel.size
    clear hbel
    by_cases hlt : k < len0 ∧ k < 12
    · obtain ⟨hlt1, hlt2⟩ := hlt
      have HO : Hid (wr.ownsRow w1.heap.size 5 1 _ k ((hi8 (ls.take k)).map (Value.int .u8))) := hown
      obtain ⟨b, off, rfl, hcl⟩ := (HR0.out.later HBW.out).2 (by omega)
      have hcc := hcl k hlt1
      obtain ⟨x, hxd⟩ : ∃ x, x = ls.getD k 0 := ⟨_, rfl⟩
      rw [← hxd] at hcc
      have hxr := HY0.out x (by rw [hxd]; have := HL0.out; simp [show k < ls.length by omega])
      have hor := or8_128 x hxr.1 hxr.2
      have HX : Hid (x = ls.getD k 0) := hxd
      clear hown hcl hxd
      go_wp2_with (at_builtin; refine wpList_append_own _ rfl (.tmp 32) (.tmp 38) 22 rfl w1.heap.size 5 i0 (.int .u8 0) 1 1 Try.underlying22 hi hzz0 hzz1 hzz2 rfl (by decide) _ _ _ rfl (HO.out.alloc _) ⟨_, 0, none⟩ 1 1 [.int .u8 (128 + x % 128)] rfl rfl (news_pre (heap_alloc_new _ _) rfl) ?hone ?h63 ?hby ?hbase ?_)
      case hone => simp [Value.oneCell']
      case h63 => unfold maxLen; omega
      case hby => omega
      case hbase => simp; omega
      intro v2 w2 hown2 hgrow2 _
      have HB2 : Hid (Below w1.heap.size w1 w2) := (HB.out.alloc hsz _).grown hgrow2 (by simp; omega) (fun k hk => (HO.out.lt k hk).1)
      have HO2 : Hid (w2.ownsRow w1.heap.size 5 1 v2 (k + 1) ((hi8 (ls.take (k + 1))).map (Value.int .u8))) := by
        show World.ownsRow _ _ _ _ _ _ _
        rw [hi8_take ls k (by have := HL0.out; omega), ← HX.out]
        simpa using hown2
      clear hown2 hgrow2
      go_wp2
      go_roundw
      case rel => exact ⟨k + 1, by omega, by omega, by go_num, HO2.out, HB2.out⟩
      case measure => simp [intOf]; omega
    · obtain ⟨H, hH⟩ : ∃ H, H = hi8 (ls.take k) := ⟨_, rfl⟩
      rw [← hH] at hown
      have hHl : H.length = k := by rw [hH, hi8_len]; have := HL0.out; simp; omega
      have HHR : Hid (∀ y ∈ H, 128 ≤ y ∧ y ≤ 255) := by rw [hH]; exact hi8_rng _
      obtain ⟨a8, cap8, hv8, hc8, hm8, hr8, hz8⟩ := rd_own2 hown
      subst hv8
      have HR8 : Hid (Rd .u8 wr a8 k H) := hr8
      have HZ8 : Hid (a8 = none → cap8 = 0) := hz8
      have HHL : Hid (H.length = k) := hHl
      have HGN : Hid (ga H = (0, 0, false)) := ga_none _ (gt_high H (fun y hy => (HHR.out y hy).1))
      have HTN : Hid (ta H = ([], 0, false)) := ta_none _ (tx_none _ (gt_high H (fun y hy => (HHR.out y hy).1)))
      have HH2 : Hid (∀ y ∈ H, 0 ≤ y ∧ y ≤ 255) := fun y hy => by have := HHR.out y hy; omega
      obtain ⟨j, hj⟩ : ∃ j : Nat, (j : Int) = many % 16 % ((k : Int) + 1) := ⟨(many % 16 % ((k : Int) + 1)).toNat, Int.toNat_of_nonneg (Int.emod_nonneg _ (by omega))⟩
      have hjk : j ≤ k := by have := Int.emod_lt_of_pos (many % 16) (show (0 : Int) < (k : Int) + 1 by omega); omega
      have hj' := hj.symm
      have hne : ((k : Int) + 1) ≠ 0 := by omega
      obtain ⟨c, hcd⟩ : ∃ c, c = c0 % 128 := ⟨_, rfl⟩
      have hc1 : 0 ≤ c := by omega
      have hc2 : c < 128 := by omega
      rw [← hcd] at hand127
      have HNV := gt_never (H.take j) c (fun y hy => (HHR.out y (List.mem_of_mem_take hy)).1) hc1 hc2
      rw [show (H.take j).length = j by simp; omega] at HNV
      have HNV' : Hid _ := HNV
      have hcutj := cut_bytes a8 k cap8 j (by omega)
      clear hown hH hHl hr8 hz8 hj hcd HNV
      by_cases hl1 : k < len0
      · have hl2 : ¬ k < 12 := by omega
        clear hlt
        go_wp2_with fail
        refine (get_any H _ _ _ _ HH2.out HR8.out (by omega)).mono ?_
        rw [HGN.out]
        rintro e w' ⟨rfl, hw'⟩
        obtain rfl : wr = w' := hw'.symm
        go_wp2_with fail
        refine (text_any H _ _ _ _ HH2.out HR8.out hc8 (by omega)).mono ?_
        rw [HTN.out]
        rintro e w' ⟨rfl, hw'⟩
        obtain rfl : wr = w' := hw'.symm
        go_wp2_with (at_builtin; refine wpList_append_rd rfl (.tmp 65) (.tmp 68) 22 rfl wr.heap.size 5 i0 (.int .u8 0) 1 Try.underlying22 hi hzz0 hzz1 hzz2 rfl _ 0 [] rfl (own_none (w := wr) wr.heap.size 5 (Nat.le_refl _) _ rfl) a8 j cap8 .u8 (H.take j) rfl ((HR8.out.take j hjk).later ((Below.refl _ wr).alloc (Nat.le_refl _) _)) HZ8.out ?h63 ?hby ?hbase ?_)
        case h63 => unfold maxLen; omega
        case hby => omega
        case hbase => simp
        intro v5 w5 hown5 hgrow5
        have HB5 : Hid (Below wr.heap.size wr w5) := ((Below.refl _ wr).alloc (Nat.le_refl _) _).grown hgrow5 (by simp) (fun k hk => ((own_none (w := wr) wr.heap.size 5 (Nat.le_refl _) _ rfl).lt k hk).1)
        have HO5 : Hid (w5.ownsRow wr.heap.size 5 1 v5 j ((H.take j).map (Value.int .u8))) := by show World.ownsRow _ _ _ _ _ _ _; simpa using hown5
        clear hown5 hgrow5
        have hsz5 := HB5.out.size
        go_wp2_with (at_builtin; refine wpList_append_own _ rfl (.tmp 69) (.tmp 71) 22 rfl wr.heap.size 5 i0 (.int .u8 0) 1 1 Try.underlying22 hi hzz0 hzz1 hzz2 rfl (by decide) _ _ _ rfl (HO5.out.alloc _) ⟨_, 0, none⟩ 1 1 [.int .u8 c] rfl rfl (news_pre (heap_alloc_new _ _) rfl) ?hone ?h63 ?hby ?hbase ?_)
        case hone => simp [Value.oneCell']
        case h63 => unfold maxLen; omega
        case hby => omega
        case hbase => first | omega | (simp; omega)
        intro v6 w6 hown6 hgrow6 _
        have HB6 : Hid (Below wr.heap.size wr w6) := (HB5.out.alloc hsz5 _).grown hgrow6 (by simp; omega) (fun k hk => (HO5.out.lt k hk).1)
        have hown6' : w6.ownsRow wr.heap.size 5 1 v6 (j + 1) ((H.take j ++ [c]).map (Value.int .u8)) := by simpa using hown6
        obtain ⟨a6, cap6, hv6, hc6, hm6, hr6⟩ := rd_own hown6'
        subst hv6
        have HR6 : Hid (Rd .u8 w6 a6 (j + 1) (H.take j ++ [c])) := hr6
        have HY6 : Hid (∀ y ∈ H.take j ++ [c], 0 ≤ y ∧ y ≤ 255) := fun y hy => (List.mem_append.1 hy).elim (fun h => HH2.out y (List.mem_of_mem_take h)) (fun h => by simp at h; omega)
        have HW6 : Hid (Below w.heap.size w w6) := HBW.out.trans (HB6.out.mono HBW.out.size)
        clear hown6 hown6' hgrow6 hr6 HO5 HB5 HB6 hsz5
        by_cases hwant : j = 0 ∨ c ≠ 0 ∧ (j < 9 ∨ j = 9 ∧ c = 1)
        · obtain ⟨V, hV⟩ := HNV'.out.1 hwant
          have HV : Hid (ga (H.take j ++ [c]) = (V, ((j + 1 : Nat) : Int), true)) := ga_some _ _ _ hV
          clear hV
          rcases (by omega : j = 0 ∨ (¬ j = 0 ∧ ¬ c = 0 ∧ j < 9) ∨ (j = 9 ∧ c = 1)) with h | ⟨h, h', h''⟩ | ⟨h, h'⟩
          all_goals clear hwant
          · subst h
            go_wp2_with fail
            refine (get_any (H.take 0 ++ [c]) _ _ _ _ HY6.out HR6.out (by omega)).mono ?_
            rw [HV.out]
            rintro e w' ⟨rfl, hw'⟩
            obtain rfl : w6 = w' := hw'.symm
            go_wp2
            go_ret
            exact ⟨ret_bool (by simp), HW6.out⟩
          · go_wp2_with fail
            refine (get_any (H.take j ++ [c]) _ _ _ _ HY6.out HR6.out (by omega)).mono ?_
            rw [HV.out]
            rintro e w' ⟨rfl, hw'⟩
            obtain rfl : w6 = w' := hw'.symm
            go_wp2
            go_ret
            exact ⟨ret_bool (by simp), HW6.out⟩
          · subst h h'
            go_wp2_with fail
            refine (get_any (H.take 9 ++ [1]) _ _ _ _ HY6.out HR6.out (by omega)).mono ?_
            rw [HV.out]
            rintro e w' ⟨rfl, hw'⟩
            obtain rfl : w6 = w' := hw'.symm
            go_wp2
            go_ret
            exact ⟨ret_bool (by simp), HW6.out⟩
        · have HV : Hid (ga (H.take j ++ [c]) = (0, 0, false)) := ga_none _ (HNV'.out.2 hwant)
          rcases (by omega : (¬ j = 0 ∧ c = 0) ∨ (j = 9 ∧ ¬ c = 1 ∧ ¬ c = 0) ∨ (9 < j ∧ ¬ c = 0)) with ⟨h, h'⟩ | ⟨h, h', h''⟩ | ⟨h, h'⟩
          all_goals clear hwant
          · subst h'
            go_wp2_with fail
            refine (get_any (H.take j ++ [0]) _ _ _ _ HY6.out HR6.out (by omega)).mono ?_
            rw [HV.out]
            rintro e w' ⟨rfl, hw'⟩
            obtain rfl : w6 = w' := hw'.symm
            go_wp2
            go_ret
            exact ⟨ret_bool (by simp; omega), HW6.out⟩
          · subst h
            go_wp2_with fail
            refine (get_any (H.take 9 ++ [c]) _ _ _ _ HY6.out HR6.out (by omega)).mono ?_
            rw [HV.out]
            rintro e w' ⟨rfl, hw'⟩
            obtain rfl : w6 = w' := hw'.symm
            go_wp2
            go_ret
            exact ⟨ret_bool (by simp; omega), HW6.out⟩
          · go_wp2_with fail
            refine (get_any (H.take j ++ [c]) _ _ _ _ HY6.out HR6.out (by omega)).mono ?_
            rw [HV.out]
            rintro e w' ⟨rfl, hw'⟩
            obtain rfl : w6 = w' := hw'.symm
            go_wp2
            go_ret
            exact ⟨ret_bool (by simp; omega), HW6.out⟩
      · clear hlt
        go_wp2_with fail
        refine (get_any H _ _ _ _ HH2.out HR8.out (by omega)).mono ?_
        rw [HGN.out]
        rintro e w' ⟨rfl, hw'⟩
        obtain rfl : wr = w' := hw'.symm
        go_wp2_with fail
        refine (text_any H _ _ _ _ HH2.out HR8.out hc8 (by omega)).mono ?_
        rw [HTN.out]
        rintro e w' ⟨rfl, hw'⟩
        obtain rfl : wr = w' := hw'.symm
        go_wp2_with (at_builtin; refine wpList_append_rd rfl (.tmp 65) (.tmp 68) 22 rfl wr.heap.size 5 i0 (.int .u8 0) 1 Try.underlying22 hi hzz0 hzz1 hzz2 rfl _ 0 [] rfl (own_none (w := wr) wr.heap.size 5 (Nat.le_refl _) _ rfl) a8 j cap8 .u8 (H.take j) rfl ((HR8.out.take j hjk).later ((Below.refl _ wr).alloc (Nat.le_refl _) _)) HZ8.out ?h63 ?hby ?hbase ?_)
        case h63 => unfold maxLen; omega
        case hby => omega
        case hbase => simp
        intro v5 w5 hown5 hgrow5
        have HB5 : Hid (Below wr.heap.size wr w5) := ((Below.refl _ wr).alloc (Nat.le_refl _) _).grown hgrow5 (by simp) (fun k hk => ((own_none (w := wr) wr.heap.size 5 (Nat.le_refl _) _ rfl).lt k hk).1)
        have HO5 : Hid (w5.ownsRow wr.heap.size 5 1 v5 j ((H.take j).map (Value.int .u8))) := by show World.ownsRow _ _ _ _ _ _ _; simpa using hown5
        clear hown5 hgrow5
        have hsz5 := HB5.out.size
        go_wp2_with (at_builtin; refine wpList_append_own _ rfl (.tmp 69) (.tmp 71) 22 rfl wr.heap.size 5 i0 (.int .u8 0) 1 1 Try.underlying22 hi hzz0 hzz1 hzz2 rfl (by decide) _ _ _ rfl (HO5.out.alloc _) ⟨_, 0, none⟩ 1 1 [.int .u8 c] rfl rfl (news_pre (heap_alloc_new _ _) rfl) ?hone ?h63 ?hby ?hbase ?_)
        case hone => simp [Value.oneCell']
        case h63 => unfold maxLen; omega
        case hby => omega
        case hbase => first | omega | (simp; omega)
        intro v6 w6 hown6 hgrow6 _
        have HB6 : Hid (Below wr.heap.size wr w6) := (HB5.out.alloc hsz5 _).grown hgrow6 (by simp; omega) (fun k hk => (HO5.out.lt k hk).1)
        have hown6' : w6.ownsRow wr.heap.size 5 1 v6 (j + 1) ((H.take j ++ [c]).map (Value.int .u8)) := by simpa using hown6
        obtain ⟨a6, cap6, hv6, hc6, hm6, hr6⟩ := rd_own hown6'
        subst hv6
        have HR6 : Hid (Rd .u8 w6 a6 (j + 1) (H.take j ++ [c])) := hr6
        have HY6 : Hid (∀ y ∈ H.take j ++ [c], 0 ≤ y ∧ y ≤ 255) := fun y hy => (List.mem_append.1 hy).elim (fun h => HH2.out y (List.mem_of_mem_take h)) (fun h => by simp at h; omega)
        have HW6 : Hid (Below w.heap.size w w6) := HBW.out.trans (HB6.out.mono HBW.out.size)
        clear hown6 hown6' hgrow6 hr6 HO5 HB5 HB6 hsz5
        by_cases hwant : j = 0 ∨ c ≠ 0 ∧ (j < 9 ∨ j = 9 ∧ c = 1)
        · obtain ⟨V, hV⟩ := HNV'.out.1 hwant
          have HV : Hid (ga (H.take j ++ [c]) = (V, ((j + 1 : Nat) : Int), true)) := ga_some _ _ _ hV
          clear hV
          rcases (by omega : j = 0 ∨ (¬ j = 0 ∧ ¬ c = 0 ∧ j < 9) ∨ (j = 9 ∧ c = 1)) with h | ⟨h, h', h''⟩ | ⟨h, h'⟩
          all_goals clear hwant
          · subst h
            go_wp2_with fail
            refine (get_any (H.take 0 ++ [c]) _ _ _ _ HY6.out HR6.out (by omega)).mono ?_
            rw [HV.out]
            rintro e w' ⟨rfl, hw'⟩
            obtain rfl : w6 = w' := hw'.symm
            go_wp2
            go_ret
            exact ⟨ret_bool (by simp), HW6.out⟩
          · go_wp2_with fail
            refine (get_any (H.take j ++ [c]) _ _ _ _ HY6.out HR6.out (by omega)).mono ?_
            rw [HV.out]
            rintro e w' ⟨rfl, hw'⟩
            obtain rfl : w6 = w' := hw'.symm
            go_wp2
            go_ret
            exact ⟨ret_bool (by simp), HW6.out⟩
          · subst h h'
            go_wp2_with fail
            refine (get_any (H.take 9 ++ [1]) _ _ _ _ HY6.out HR6.out (by omega)).mono ?_
            rw [HV.out]
            rintro e w' ⟨rfl, hw'⟩
            obtain rfl : w6 = w' := hw'.symm
            go_wp2
            go_ret
            exact ⟨ret_bool (by simp), HW6.out⟩
        · have HV : Hid (ga (H.take j ++ [c]) = (0, 0, false)) := ga_none _ (HNV'.out.2 hwant)
          rcases (by omega : (¬ j = 0 ∧ c = 0) ∨ (j = 9 ∧ ¬ c = 1 ∧ ¬ c = 0) ∨ (9 < j ∧ ¬ c = 0)) with ⟨h, h'⟩ | ⟨h, h', h''⟩ | ⟨h, h'⟩
          all_goals clear hwant
          · subst h'
            go_wp2_with fail
            refine (get_any (H.take j ++ [0]) _ _ _ _ HY6.out HR6.out (by omega)).mono ?_
            rw [HV.out]
            rintro e w' ⟨rfl, hw'⟩
            obtain rfl : w6 = w' := hw'.symm
            go_wp2
            go_ret
            exact ⟨ret_bool (by simp; omega), HW6.out⟩
          · subst h
            go_wp2_with fail
            refine (get_any (H.take 9 ++ [c]) _ _ _ _ HY6.out HR6.out (by omega)).mono ?_
            rw [HV.out]
            rintro e w' ⟨rfl, hw'⟩
            obtain rfl : w6 = w' := hw'.symm
            go_wp2
            go_ret
            exact ⟨ret_bool (by simp; omega), HW6.out⟩
          · go_wp2_with fail
            refine (get_any (H.take j ++ [c]) _ _ _ _ HY6.out HR6.out (by omega)).mono ?_
            rw [HV.out]
            rintro e w' ⟨rfl, hw'⟩
            obtain rfl : w6 = w' := hw'.symm
            go_wp2
            go_ret
            exact ⟨ret_bool (by simp; omega), HW6.out⟩
end Go.Proofs.Ytefikaldfbidkab
