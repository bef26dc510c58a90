/- The walk of UtfSums: whatever the two rows of characters: true. -/
import Derived.Test.YtdoflmgdmcmmfabUtfI
namespace Go.Proofs.Ytdoflmgdmcmmfab
open Go.RowKit
set_option linter.unusedVariables false

theorem str_append (xs ys : List Int) : strOfNums xs ++ strOfNums ys = strOfNums (xs ++ ys) := by
  apply ByteArray.ext
  simp [strOfNums]

/-- The two rows behind one another, in new memory. -/
theorem below_two {w w1 : World} {o : Obj} {v : Value} {n : Nat} {xs : List Value} (hown : (w.alloc o).ownsRow w.heap.size 21 1 v n xs) (h : (w.alloc o).grownBy w1 v.ownBlock) : Below w.heap.size w w1 :=
  ((Below.refl _ w).alloc (Nat.le_refl _) o).grown h (by simp) (fun k hk => (hown.lt k hk).1)

set_option maxHeartbeats 1000000 in
theorem utfSums_walk (a0 a1 : Option Addr) (len0 cap0 len1 cap1 n0 n1 : Nat) (xs ys : List Int) (w : World) (hc0 : len0 ≤ cap0) (hc1 : len1 ≤ cap1)
    (hn0 : n0 = min len0 100) (hn1 : n1 = min len1 100) (h0 : Rd .i32 w a0 n0 xs) (h1 : Rd .i32 w a1 n1 ys) (hz0 : a0 = none → cap0 = 0) (hz1 : a1 = none → cap1 = 0) :
    Calls Try.prog 3 #[.slice a0 len0 cap0, .slice a1 len1 cap1] w fun e w' => e = .returned (.bool true) ∧ Below w.heap.size w w' := by
  obtain ⟨i0, hi, hzz0, hzz1, hzz2⟩ := info_parts info_i32
  have hm0 := min_run len0 n0 100 (by omega)
  have hm1 := min_run len1 n1 100 (by omega)
  have hs0 := cut_runes a0 len0 cap0 n0 (by omega)
  have hs1 := cut_runes a1 len1 cap1 n1 (by omega)
  have hl0 : n0 ≤ 100 := by omega
  have hl1 : n1 ≤ 100 := by omega
  have H0 : Hid (Rd .i32 w a0 n0 xs) := h0
  have H1 : Hid (Rd .i32 w a1 n1 ys) := h1
  have HZ0 : Hid (a0 = none → cap0 = 0) := hz0
  have HZ1 : Hid (a1 = none → cap1 = 0) := hz1
  clear hn0 hn1 h0 h1 hz0 hz1
  go_enter Try.func3, Try.ntmps3
  go_wp2_with (first | (go_at_call 5; refine (shown_any _).mono ?_; rintro e w1 ⟨rfl, hb1⟩))
  have HB1 : Hid (Below w.heap.size w w1) := hb1
  clear hb1
  refine (encode_any xs _ _ _ _ (by omega) (H0.out.later HB1.out)).mono ?_
  rintro e w2 ⟨hb2, he2⟩
  have HB2 : Hid (Below w.heap.size w w2) := HB1.out.trans (hb2.mono HB1.out.size)
  clear hb2
  -- the second call and the two appends, on each way
  have hE : ∃ (v2 : Value) (e2 : Int), e = .returned (.tuple #[v2, .int .i64 e2]) ∧ ((oks xs = false ∧ e2 = 1) ∨ (oks xs = true ∧ e2 = 0 ∧ ∃ a2 cap2, v2 = .slice a2 (encs xs).length cap2 ∧ Rd .u8 w2 a2 (encs xs).length (encs xs))) := by
    rcases he2 with ⟨h, rfl⟩ | ⟨h, v, rfl, ho⟩
    · exact ⟨_, _, rfl, .inl ⟨h, rfl⟩⟩
    · obtain ⟨a', cap', rfl, _, _, h3⟩ := rd_own ho
      exact ⟨_, _, rfl, .inr ⟨h, rfl, a', cap', rfl, h3⟩⟩
  clear he2
  obtain ⟨v2, e2, rfl, hE2⟩ := hE
  have HE2 : Hid ((oks xs = false ∧ e2 = 1) ∨ (oks xs = true ∧ e2 = 0 ∧ ∃ a2 cap2, v2 = .slice a2 (encs xs).length cap2 ∧ Rd .u8 w2 a2 (encs xs).length (encs xs))) := hE2
  clear hE2
  go_wp2_with fail
  refine (encode_any ys _ _ _ _ (by omega) (H1.out.later HB2.out)).mono ?_
  rintro e w3 ⟨hb3, he3⟩
  have HB3 : Hid (Below w.heap.size w w3) := HB2.out.trans (hb3.mono HB2.out.size)
  have HB23 : Hid (Below w2.heap.size w2 w3) := hb3
  clear hb3
  have hE : ∃ (v3 : Value) (e3 : Int), e = .returned (.tuple #[v3, .int .i64 e3]) ∧ ((oks ys = false ∧ e3 = 1) ∨ (oks ys = true ∧ e3 = 0 ∧ ∃ a3 cap3, v3 = .slice a3 (encs ys).length cap3 ∧ Rd .u8 w3 a3 (encs ys).length (encs ys))) := by
    rcases he3 with ⟨h, rfl⟩ | ⟨h, v, rfl, ho⟩
    · exact ⟨_, _, rfl, .inl ⟨h, rfl⟩⟩
    · obtain ⟨a', cap', rfl, _, _, h3⟩ := rd_own ho
      exact ⟨_, _, rfl, .inr ⟨h, rfl, a', cap', rfl, h3⟩⟩
  clear he3
  obtain ⟨v3, e3, rfl, hE3⟩ := hE
  have HE3 : Hid ((oks ys = false ∧ e3 = 1) ∨ (oks ys = true ∧ e3 = 0 ∧ ∃ a3 cap3, v3 = .slice a3 (encs ys).length cap3 ∧ Rd .u8 w3 a3 (encs ys).length (encs ys))) := hE3
  clear hE3
  have HBA : ∀ o : Obj, Below w.heap.size w (w3.alloc o) := fun o => HB3.out.alloc HB3.out.size o
  have HOA := own_none (w := w3) w3.heap.size 21 (Nat.le_refl _) _ rfl
  have HOA' : Hid ((w3.alloc (.cells #[] 21)).ownsRow w3.heap.size 21 1 (.slice (some ⟨w3.heap.size, 0, none⟩) 0 0) 0 []) := HOA
  have HBA' : Hid (∀ o : Obj, Below w.heap.size w (w3.alloc o)) := HBA
  clear HOA HBA
  go_wp2_with (first | (at_builtin; refine wpList_append_rd rfl (.tmp 36) (.tmp 37) 22 rfl w3.heap.size 21 i0 (.int .i32 0) 4 Try.underlying22 hi hzz0 hzz1 hzz2 rfl _ 0 [] rfl HOA'.out a0 n0 cap0 .i32 xs rfl (H0.out.later (HBA'.out _)) HZ0.out ?h63 ?hby ?hbase ?_))
  case h63 => unfold maxLen; omega
  case hby => omega
  case hbase => simp
  intro v4 w4 hown4 hgrow4
  have HG4 : Hid (Below w3.heap.size w3 w4) := below_two HOA'.out hgrow4
  have HO4 : Hid (w4.ownsRow w3.heap.size 21 1 v4 n0 (xs.map (Value.int .i32))) := by simpa [Hid] using hown4
  clear hown4 hgrow4
  have HB4 : Hid (Below w.heap.size w w4) := HB3.out.trans (HG4.out.mono HB3.out.size)
  go_wp2_with (first | (at_builtin; refine wpList_append_rd rfl (.tmp 38) (.tmp 39) 22 rfl w3.heap.size 21 i0 (.int .i32 0) 4 Try.underlying22 hi hzz0 hzz1 hzz2 rfl _ n0 (xs.map (Value.int .i32)) rfl HO4.out a1 n1 cap1 .i32 ys rfl (H1.out.later HB4.out) HZ1.out ?h63b ?hbyb ?hbaseb ?_))
  case h63b => unfold maxLen; omega
  case hbyb => omega
  case hbaseb => exact HG4.out.size
  intro v5 w5 hown5 hgrow5
  have HG5 : Hid (Below w3.heap.size w3 w5) := HG4.out.grown hgrow5 HG4.out.size (fun k hk => (HO4.out.lt k hk).1)
  have HO5 : ∃ a5 cap5, v5 = .slice a5 (n0 + n1) cap5 ∧ (n0 + n1) ≤ cap5 ∧ cap5 ≤ 9223372036854775807 ∧ Rd .i32 w5 a5 (n0 + n1) (xs ++ ys) := rd_own (by simpa using hown5)
  have HB5 : Hid (Below w.heap.size w w5) := HB3.out.trans (HG5.out.mono HB3.out.size)
  clear hown5 hgrow5 HO4 HG4 HB4 HOA' HBA'
  obtain ⟨a5, cap5, hv5, _, _, hr5⟩ := HO5
  have HR5 : Hid (Rd .i32 w5 a5 (n0 + n1) (xs ++ ys)) := hr5
  clear hr5
  rw [hv5]
  clear hv5
  go_wp2_with fail
  refine (encode_any (xs ++ ys) _ _ _ _ (by omega) HR5.out).mono ?_
  rintro e w6 ⟨hb6, he6⟩
  have HB6 : Hid (Below w.heap.size w w6) := HB5.out.trans (hb6.mono HB5.out.size)
  have HB36 : Hid (Below w3.heap.size w3 w6) := HG5.out.trans (hb6.mono HG5.out.size)
  clear hb6 HG5
  have hE : ∃ (v6 : Value) (e6 : Int), e = .returned (.tuple #[v6, .int .i64 e6]) ∧ ((oks (xs ++ ys) = false ∧ e6 = 1) ∨ (oks (xs ++ ys) = true ∧ e6 = 0 ∧ ∃ a6 cap6, v6 = .slice a6 (encs (xs ++ ys)).length cap6 ∧ Rd .u8 w6 a6 (encs (xs ++ ys)).length (encs (xs ++ ys)))) := by
    rcases he6 with ⟨h, rfl⟩ | ⟨h, v, rfl, ho⟩
    · exact ⟨_, _, rfl, .inl ⟨h, rfl⟩⟩
    · obtain ⟨a', cap', rfl, _, _, h3⟩ := rd_own ho
      exact ⟨_, _, rfl, .inr ⟨h, rfl, a', cap', rfl, h3⟩⟩
  clear he6
  obtain ⟨v6, e6, rfl, hE6⟩ := hE
  rcases HE2.out with ⟨h2, rfl⟩ | ⟨h2, rfl, a2, cap2, hv2, hr2⟩
  · have h6 : e6 = 1 := by
      rcases hE6 with ⟨_, h⟩ | ⟨h, _⟩
      · exact h
      · rw [oks_append, h2] at h; simp at h
    subst h6
    clear hE6 HE2 HE3
    go_wp2
    all_goals go_ret
    all_goals exact ⟨rfl, HB6.out⟩
  · rcases HE3.out with ⟨h3, rfl⟩ | ⟨h3, rfl, a3, cap3, hv3, hr3⟩
    · have h6 : e6 = 1 := by
        rcases hE6 with ⟨_, h⟩ | ⟨h, _⟩
        · exact h
        · rw [oks_append, h2, h3] at h; simp at h
      subst h6
      clear hE6 HE2 HE3
      go_wp2
      all_goals go_ret
      all_goals exact ⟨rfl, HB6.out⟩
    · rcases hE6 with ⟨h, _⟩ | ⟨_, rfl, a6, cap6, hv6, hr6⟩
      · rw [oks_append, h2, h3] at h; simp at h
      · rw [hv2, hv3, hv6]
        have HO0 : Hid (oks xs = true) := h2
        have hcv2 := conv_str (cap := cap2) ((hr2.later HB23.out).later HB36.out)
        have hcv3 := conv_str (cap := cap3) (hr3.later HB36.out)
        have hcv6 := conv_str (cap := cap6) hr6
        have hbig : ∀ W, (Op.stringOp .add (strOfNums (encs xs)) (strOfNums (encs ys))).run Try.prog W = .ok (.string (strOfNums (encs (xs ++ ys)))) W := fun W => by
          rw [run_string_add_sum W _ _ (by
            rw [strOfNums_size, strOfNums_size]
            have := encs_len xs; have := encs_len ys; have := H0.out.1; have := H1.out.1; omega), str_append, encs_append]
        have hx0 := H0.out.1
        have he0 := encs_len xs
        have hel : (encs xs).length ≤ 400 := by omega
        have HX0 : Hid (xs.length = n0) := hx0
        clear HE2 HE3 hv2 hv3 hv6 h2 h3 hr2 hr3 hr6 hx0 he0
        go_wp2
        go_loop [12, 13] (fun n i => ∃ k : Nat, k ≤ n0 ∧ i = .int .i64 k ∧ n = .int .i64 ((encs (xs.take k)).length : Nat)) (fun _ i => n0 - (intOf i).toNat)
        case atStart => exact ⟨0, by omega, rfl, rfl⟩
        case round =>
          obtain ⟨k, hk, rfl, rfl⟩ := hrel
          have hel2 : (encs (xs.take k)).length ≤ 400 := by have := encs_take_len xs k; omega
          by_cases hlt : k < n0
          · obtain ⟨b, off, rfl, hcl⟩ := (H0.out.later HB6.out).2 (by omega)
            have hcc := hcl k hlt
            obtain ⟨c, hcd⟩ : ∃ c, c = xs.getD k 0 := ⟨_, rfl⟩
            rw [← hcd] at hcc
            have hszc := sz_le c
            have hs1' : 0 ≤ sz c := hszc.1
            have hs2' : sz c ≤ 4 := hszc.2
            have HN : Hid (((encs (xs.take (k + 1))).length : Int) = ((encs (xs.take k)).length : Int) + sz c) := by
              show _ = _
              rw [encs_take xs k (by have := HX0.out; omega), ← hcd]
              have := sz_len c (by rw [hcd]; exact oks_get xs HO0.out k (by have := HX0.out; omega))
              simp; omega
            clear hcl hcd hszc
            go_wp2_with (first | (go_at_call 7; refine (size_any _ _).mono ?_; rintro e w' ⟨rfl, rfl⟩))
            go_round
            case rel => exact ⟨k + 1, by omega, by go_num, by rw [HN.out]⟩
            case measure => simp [intOf]; omega
          · have hke : k = n0 := by omega
            have HT : Hid (xs.take k = xs) := List.take_of_length_le (by have := HX0.out; omega)
            have hlen' : ((((encs xs).length : Nat) : Int) == (((encs (xs.take k)).length : Nat) : Int)) = true := by rw [HT.out]; simp
            clear hke
            go_wp2
            go_ret
            exact ⟨ret_bool (by simp), HB6.out⟩
end Go.Proofs.Ytdoflmgdmcmmfab
