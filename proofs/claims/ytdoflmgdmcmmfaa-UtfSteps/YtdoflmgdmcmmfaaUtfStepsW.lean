/- The walk of UtfSteps: whatever the bytes: true. -/
import Derived.Test.YtdoflmgdmcmmfaaUtfS
import Derived.Test.YtdoflmgdmcmmfaaUtfQ
namespace Go.Proofs.Ytdoflmgdmcmmfaa
open Go.RowKit
set_option linter.unusedVariables false

set_option maxHeartbeats 2000000 in
theorem utfSteps_walk (a : Option Addr) (len cap n0 : Nat) (bs : List Int) (w : World) (hcap : len ≤ cap) (hm : cap ≤ 9223372036854775807)
    (hn0 : n0 = min len 500) (h0 : Rd .u8 w a n0 bs) (hr : ∀ y ∈ bs, 0 ≤ y ∧ y ≤ 255) :
    Calls Try.prog 8 #[.slice a len cap] w fun e w' => e = .returned (.bool true) ∧ Below w.heap.size w w' := by
  obtain ⟨i0, hi, hz0, hz1, hz2⟩ := info_parts info_i32
  have hm0 := min_run len n0 500 (by omega)
  have hs0 := cut_bytes a len cap n0 (by omega)
  have hl0 : n0 ≤ 500 := by omega
  have hnc : n0 ≤ cap := by omega
  have H0 : Hid (Rd .u8 w a n0 bs) := h0
  have HY : Hid (∀ y ∈ bs, 0 ≤ y ∧ y ≤ 255) := hr
  have HL : Hid (bs.length = n0) := h0.1
  clear hn0 h0 hr
  go_enter Try.func8, Try.ntmps8
  go_wp2_with (first | (go_at_call 9; refine (shown_any _).mono ?_; rintro e w1 ⟨rfl, hb1⟩))
  have HB1 : Hid (Below w.heap.size w w1) := hb1
  clear hb1
  refine (decode_any bs _ _ _ _ hnc hm (by omega) HY.out (H0.out.later HB1.out)).mono ?_
  rintro e w2 ⟨hb2, he2⟩
  have HB2 : Hid (Below w.heap.size w w2) := HB1.out.trans (hb2.mono HB1.out.size)
  clear hb2
  have hE : ∃ (v2 : Value) (e2 : Int), e = .returned (.tuple #[v2, .int .i64 e2]) ∧ ((dec bs = none ∧ e2 = 2) ∨ (∃ cs a2 cap2, dec bs = some cs ∧ e2 = 0 ∧ cs.length ≤ bs.length ∧ v2 = .slice a2 cs.length cap2 ∧ Rd .i32 w2 a2 cs.length cs)) := by
    rcases he2 with ⟨h, rfl⟩ | ⟨cs, v, h, hl, rfl, ho⟩
    · exact ⟨_, _, rfl, .inl ⟨h, rfl⟩⟩
    · obtain ⟨a', cap', rfl, _, _, h3⟩ := rd_own ho
      exact ⟨_, _, rfl, .inr ⟨cs, a', cap', h, rfl, hl, rfl, h3⟩⟩
  clear he2
  obtain ⟨v2, e2, rfl, hE2⟩ := hE
  have HE2 : Hid ((dec bs = none ∧ e2 = 2) ∨ (∃ cs a2 cap2, dec bs = some cs ∧ e2 = 0 ∧ cs.length ≤ bs.length ∧ v2 = .slice a2 cs.length cap2 ∧ Rd .i32 w2 a2 cs.length cs)) := hE2
  clear hE2
  have HS : Hid (DecAt bs w2 (.slice a n0 cap) (.slice none 0 0) w2) := ⟨a, n0, cap, bs, [], rfl, hnc, hm, H0.out.later HB2.out, HY.out, by simp, by simp, World.ownsRow_nil _ _ _ _, Below.refl _ _⟩
  go_wp2
  go_loopw [0, 6] (fun v0 v6 wr => DecAt bs w2 v0 v6 wr) (fun v0 _ _ => slen v0)
  case atStart => exact HS.out
  case round =>
    obtain ⟨a', n', cap', rem, ps, hv0, hcap', hm', hrd', hr', hd', hl', hown, hbel⟩ := hrel
    subst hv0
    have HO : Hid (wr.ownsRow w2.heap.size 21 1 _ ps.length (ps.map (Value.int .i32))) := hown
    have HB : Hid (Below w2.heap.size w2 wr) := hbel
    have hsz := hbel.size
    have HD : Hid (dec bs = (dec rem).map (ps ++ ·)) := hd'
    have HR : Hid (∀ y ∈ rem, 0 ≤ y ∧ y ≤ 255) := hr'
    have HRD : Hid (Rd .u8 w2 a' n' rem) := hrd'
    have HRW : Hid (Rd .u8 wr a' n' rem) := hrd'.later hbel
    have HLL : Hid (ps.length + rem.length ≤ bs.length) := hl'
    have hn' : rem.length = n' := hrd'.1
    have hpl : ps.length ≤ 500 := by have := HL.out; omega
    have HBW : Hid (Below w.heap.size w wr) := HB2.out.trans (HB.out.mono HB2.out.size)
    clear hown hbel hd' hr' hrd' hl' HS
    cases rem with
    | nil =>
      obtain rfl : n' = 0 := by simpa using hn'.symm
      rcases HE2.out with ⟨h, _⟩ | ⟨cs, a2, cap2, h, rfl, hcl, hv2, hr2⟩
      · have := HD.out; rw [dec_nil, h] at this; simp at this
      · have hcs : cs = ps := by have := HD.out; rw [dec_nil, h] at this; simpa using this
        subst hcs
        rw [hv2]
        obtain ⟨a6, cap6, hv6, _, _, hr6⟩ := rd_own HO.out
        rw [hv6]
        have HRA : Hid (Rd .i32 wr a6 cs.length cs) := hr6
        have HRB : Hid (Rd .i32 wr a2 cs.length cs) := hr2.later HB.out
        clear HE2 hv2 hr2 hv6 hr6 h hcl HO
        go_wp2_with (first | (go_at_call 16; refine (same_true _ _ cs.length _ _ cs _ (by omega) HRA.out HRB.out).mono ?_; rintro e w4 ⟨rfl, hb4⟩; have HB4 : Hid (Below wr.heap.size wr w4) := hb4; clear hb4))
        go_ret
        exact ⟨rfl, HBW.out.trans (HB4.out.mono HBW.out.size)⟩
    | cons x r =>
      have hn1 : r.length + 1 = n' := by simpa using hn'
      obtain ⟨b, off, rfl, hcw⟩ := HRD.out.2 (by omega)
      have HCW : Hid (∀ i, i < n' → w2.cell? ⟨b, off + i, none⟩ = some (.int .u8 ((x :: r).getD i 0))) := hcw
      have hpos : (0 : Int) < (n' : Int) := by omega
      obtain ⟨⟨c, n, er⟩, hF⟩ : ∃ F : Int × Int × Int, F = first (x :: r) := ⟨_, rfl⟩
      have HF : Hid ((c, n, er) = first (x :: r)) := hF
      have hx := HR.out x (by simp)
      clear hcw hF hn'
      by_cases he : er = 0
      · subst he
        have hnn := first_n x r hx.1 hx.2 (by rw [← HF.out])
        have hinv := first_inv x r hx.1 (by rw [← HF.out])
        rw [← HF.out] at hnn hinv
        obtain ⟨n, rfl⟩ : ∃ m : Nat, n = (m : Int) := ⟨n.toNat, by simp at hnn; omega⟩
        have hszc : sz c = (n : Int) := hinv.1
        simp at hnn
        have hn2 : 1 ≤ n := by omega
        have hn3 : n ≤ n' := by omega
        clear hnn hinv
        rcases (by omega : cap' = n ∨ n < cap') with hce | hce
        · subst hce
          go_wp2_with (first | (go_at_call 12; refine (first_any (x :: r) _ _ _ _ hcap' hm' HR.out HRW.out).mono ?_; rw [← HF.out]; rintro e w' ⟨rfl, rfl⟩) | (go_at_call 17; refine (size_any _ _).mono ?_; rw [hszc]; rintro e w' ⟨rfl, rfl⟩) | (at_builtin; refine wpList_append_own _ rfl (.tmp 55) (.tmp 57) 22 rfl w2.heap.size 21 i0 (.int .i32 0) 1 4 Try.underlying22 hi hz0 hz1 hz2 rfl (by decide) _ _ _ rfl (HO.out.alloc _) ⟨_, 0, none⟩ 1 1 [.int .i32 c] rfl rfl (news_pre (heap_alloc_new _ _) rfl) ?hone1 ?h631 ?hby1 ?hbase1 ?_))
          case hone1 => simp [Value.oneCell']
          case h631 => unfold maxLen; omega
          case hby1 => omega
          case hbase1 => simp; omega
          intro v1 w3 hown1 hgrow1 _
          have HB1' : Hid (Below w2.heap.size _ w3) := ((Below.refl w2.heap.size _).alloc hsz _).grown hgrow1 (by simp; omega) (fun k hk => (HO.out.lt k hk).1)
          have HO1 : Hid (w3.ownsRow w2.heap.size 21 1 v1 (ps.length + 1) (ps.map (Value.int .i32) ++ [.int .i32 c])) := hown1
          clear hown1 hgrow1
          go_wp2
          go_roundw
          case rel => exact decAt_step (cap' := cap') (n := cap') hn1 hcap' hm' HCW.out HR.out HD.out HLL.out HF.out.symm hn2 hn3 HO1.out HB.out HB1'.out (.inr ⟨by omega, by omega, by omega⟩)
          case measure => simp [slen]; omega
        · go_wp2_with (first | (go_at_call 12; refine (first_any (x :: r) _ _ _ _ hcap' hm' HR.out HRW.out).mono ?_; rw [← HF.out]; rintro e w' ⟨rfl, rfl⟩) | (go_at_call 17; refine (size_any _ _).mono ?_; rw [hszc]; rintro e w' ⟨rfl, rfl⟩) | (at_builtin; refine wpList_append_own _ rfl (.tmp 55) (.tmp 57) 22 rfl w2.heap.size 21 i0 (.int .i32 0) 1 4 Try.underlying22 hi hz0 hz1 hz2 rfl (by decide) _ _ _ rfl (HO.out.alloc _) ⟨_, 0, none⟩ 1 1 [.int .i32 c] rfl rfl (news_pre (heap_alloc_new _ _) rfl) ?hone2 ?h632 ?hby2 ?hbase2 ?_))
          case hone2 => simp [Value.oneCell']
          case h632 => unfold maxLen; omega
          case hby2 => omega
          case hbase2 => simp; omega
          intro v1 w3 hown1 hgrow1 _
          have HB1' : Hid (Below w2.heap.size _ w3) := ((Below.refl w2.heap.size _).alloc hsz _).grown hgrow1 (by simp; omega) (fun k hk => (HO.out.lt k hk).1)
          have HO1 : Hid (w3.ownsRow w2.heap.size 21 1 v1 (ps.length + 1) (ps.map (Value.int .i32) ++ [.int .i32 c])) := hown1
          clear hown1 hgrow1
          go_wp2
          go_roundw
          case rel => exact decAt_step (cap' := cap') (n := n) hn1 hcap' hm' HCW.out HR.out HD.out HLL.out HF.out.symm hn2 hn3 HO1.out HB.out HB1'.out (.inl ⟨rfl, rfl, rfl⟩)
          case measure => simp [slen]; omega
      · have hbad := HD.out
        rw [dec_bad x r (by rw [← HF.out]; exact he)] at hbad
        have hn0' : n = 0 := by
          have := first_err x r (by rw [← HF.out]; exact he)
          rw [← HF.out] at this
          exact this
        subst hn0'
        rcases HE2.out with ⟨_, rfl⟩ | ⟨cs, a2, cap2, h, _⟩
        · have he' : (er != 0) = true := by simpa using he
          clear hbad HE2
          go_wp2_with (first | (go_at_call 12; refine (first_any (x :: r) _ _ _ _ hcap' hm' HR.out HRW.out).mono ?_; rw [← HF.out]; rintro e w' ⟨rfl, rfl⟩))
          go_ret
          exact ⟨rfl, HBW.out⟩
        · rw [h] at hbad; simp at hbad
end Go.Proofs.Ytdoflmgdmcmmfaa
