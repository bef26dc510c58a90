/- The walk of Decode: the characters whose bytes these are, in new memory; ErrForm, if there are none. -/
import Derived.Test.YtdoflmgdmcmmfaaUtfD
namespace Go.Proofs.Ytdoflmgdmcmmfaa
open Go.RowKit
set_option linter.unusedVariables false

theorem info_i32 : (Try.prog.info? 21).map (fun i => (i.zero, i.size, i.bytes)) = some (some (.int .i32 0), 1, 4) := by kernel_rfl

theorem Rd.later {k : IntKind} {w w' : World} {a : Option Addr} {len : Nat} {xs : List Int} (h : Rd k w a len xs) (hb : Below w.heap.size w w') : Rd k w' a len xs := by
  refine ⟨h.1, fun hp => ?_⟩
  obtain ⟨b, off, ha, hc⟩ := h.2 hp
  refine ⟨b, off, ha, fun i hi => ?_⟩
  exact (hb.cell (p := ⟨b, off + i, none⟩) (World.block_lt_of_cell? w _ (hc i hi))).trans (hc i hi)

def slen : Value → Nat
  | .slice _ n _ => n
  | _ => 0

/-- Where Decode stands: what is left of the bytes (at a', n' of them), and what was decoded so far. -/
def DecAt (bs : List Int) (w : World) (v0 v4 : Value) (wr : World) : Prop :=
  ∃ (a' : Option Addr) (n' cap' : Nat) (rem ps : List Int), v0 = .slice a' n' cap' ∧ n' ≤ cap' ∧ cap' ≤ 9223372036854775807 ∧ Rd .u8 w a' n' rem ∧ (∀ y ∈ rem, 0 ≤ y ∧ y ≤ 255) ∧
    dec bs = (dec rem).map (ps ++ ·) ∧ ps.length + rem.length ≤ bs.length ∧ wr.ownsRow w.heap.size 21 1 v4 ps.length (ps.map (Value.int .i32)) ∧ Below w.heap.size w wr

theorem decAt_step {bs : List Int} {w wr w1 : World} {b off n' cap' n : Nat} {x c : Int} {r ps : List Int} {v1 : Value} (hn : r.length + 1 = n') (hcap : n' ≤ cap') (hm : cap' ≤ 9223372036854775807)
    (hc : ∀ i, i < n' → w.cell? ⟨b, off + i, none⟩ = some (.int .u8 ((x :: r).getD i 0))) (hr : ∀ y ∈ x :: r, 0 ≤ y ∧ y ≤ 255)
    (hd : dec bs = (dec (x :: r)).map (ps ++ ·)) (hl : ps.length + (x :: r).length ≤ bs.length)
    (hF : first (x :: r) = (c, (n : Int), 0)) (hn1 : 1 ≤ n) (hn2 : n ≤ n')
    (hown : w1.ownsRow w.heap.size 21 1 v1 (ps.length + 1) (ps.map (Value.int .i32) ++ [.int .i32 c])) (hb : Below w.heap.size w wr) (hb1 : Below w.heap.size wr w1)
    {a2 : Option Addr} {l2 c2 : Nat} (h2 : (a2 = some ⟨b, off + n, none⟩ ∧ l2 = n' - n ∧ c2 = cap' - n) ∨ (l2 = 0 ∧ n' = n ∧ c2 = 0)) :
    DecAt bs w (.slice a2 l2 c2) v1 w1 := by
  have hd2 := dec_ok x r (by rw [hF])
  rw [hF] at hd2
  have hlen : (r.drop (n - 1)).length = n' - n := by simp; omega
  have hrd : Rd .u8 w a2 l2 (r.drop (n - 1)) := by
    rcases h2 with ⟨rfl, rfl, rfl⟩ | ⟨rfl, h, rfl⟩
    · refine ⟨hlen, fun hp => ⟨b, off + n, rfl, fun i hi => ?_⟩⟩
      have := hc (n + i) (by omega)
      rw [show off + n + i = off + (n + i) by omega, this]
      congr 2
      rw [show n + i = (n - 1 + i) + 1 by omega]
      simp
    · exact ⟨by omega, fun hp => absurd hp (by omega)⟩
  refine ⟨a2, l2, c2, r.drop (n - 1), ps ++ [c], rfl, by omega, by omega, hrd, fun y hy => hr y (List.mem_cons_of_mem _ (List.mem_of_mem_drop hy)), ?_, ?_, ?_, hb.trans hb1⟩
  · rw [hd, hd2]
    simp [Function.comp_def]
  · simp at hl ⊢; omega
  · simpa using hown

set_option maxHeartbeats 1000000 in
theorem decode_any (bs : List Int) (a : Option Addr) (len cap : Nat) (w : World) (hcap : len ≤ cap) (hm : cap ≤ 9223372036854775807) (hlen : len ≤ 100000000000) (hr : ∀ y ∈ bs, 0 ≤ y ∧ y ≤ 255) (hrd : Rd .u8 w a len bs) :
    Calls Try.prog 14 #[.slice a len cap] w fun e w' => Below w.heap.size w w' ∧
      ((dec bs = none ∧ e = .returned (.tuple #[.slice none 0 0, .int .i64 2])) ∨
       (∃ cs v, dec bs = some cs ∧ cs.length ≤ bs.length ∧ e = .returned (.tuple #[v, .int .i64 0]) ∧ w'.ownsRow w.heap.size 21 1 v cs.length (cs.map (Value.int .i32)))) := by
  obtain ⟨i0, hi, hz0, hz1, hz2⟩ := info_parts info_i32
  have HS : Hid (DecAt bs w (.slice a len cap) (.slice none 0 0) w) := ⟨a, len, cap, bs, [], rfl, hcap, hm, hrd, hr, by simp, by simp, World.ownsRow_nil _ _ _ _, Below.refl _ _⟩
  have HL : Hid (bs.length = len) := hrd.1
  clear hrd hr
  go_enter Try.func14, Try.ntmps14
  go_wp2
  go_loopw [0, 4] (fun v0 v4 wr => DecAt bs w v0 v4 wr) (fun v0 _ _ => slen v0)
  case atStart => exact HS.out
  case round =>
    obtain ⟨a', n', cap', rem, ps, hv0, hcap', hm', hrd', hr', hd', hl', hown, hbel⟩ := hrel
    subst hv0
    have HO : Hid (wr.ownsRow w.heap.size 21 1 _ ps.length (ps.map (Value.int .i32))) := hown
    have HB : Hid (Below w.heap.size w wr) := hbel
    have hsz := hbel.size
    have HD : Hid (dec bs = (dec rem).map (ps ++ ·)) := hd'
    have HR : Hid (∀ y ∈ rem, 0 ≤ y ∧ y ≤ 255) := hr'
    have HRD : Hid (Rd .u8 w a' n' rem) := hrd'
    have HRW : Hid (Rd .u8 wr a' n' rem) := hrd'.later hbel
    have HLL : Hid (ps.length + rem.length ≤ bs.length) := hl'
    have hn' : rem.length = n' := hrd'.1
    have hpl : ps.length ≤ 100000000000 := by have := HL.out; omega
    clear hown hbel hd' hr' hrd' hl'
    cases rem with
    | nil =>
      obtain rfl : n' = 0 := by simpa using hn'.symm
      go_wp2
      go_ret2
      exact ⟨HB.out, .inr ⟨ps, _, by rw [HD.out, dec_nil]; simp, by have := HLL.out; simp at this; omega, rfl, HO.out⟩⟩
    | cons x r =>
      have hn1 : r.length + 1 = n' := by simpa using hn'
      obtain ⟨b, off, rfl, hcw⟩ := HRD.out.2 (by omega)
      have HCW : Hid (∀ i, i < n' → w.cell? ⟨b, off + i, none⟩ = some (.int .u8 ((x :: r).getD i 0))) := hcw
      have hpos : (0 : Int) < (n' : Int) := by omega
      obtain ⟨⟨c, n, er⟩, hF⟩ : ∃ F : Int × Int × Int, F = first (x :: r) := ⟨_, rfl⟩
      have HF : Hid ((c, n, er) = first (x :: r)) := hF
      have hx := HR.out x (by simp)
      clear hcw hF hn'
      by_cases he : er = 0
      · subst he
        have hnn := first_n x r hx.1 hx.2 (by rw [← HF.out])
        rw [← HF.out] at hnn
        obtain ⟨n, rfl⟩ : ∃ m : Nat, n = (m : Int) := ⟨n.toNat, by simp at hnn; omega⟩
        simp at hnn
        have hn2 : 1 ≤ n := by omega
        have hn3 : n ≤ n' := by omega
        clear hnn
        have hne0 : (n' : Int) ≠ 0 := by omega
        rcases (by omega : cap' = n ∨ n < cap') with hce | hce
        · subst hce
          go_wp2_with (first | (go_at_call 12; refine (first_any (x :: r) _ _ _ _ hcap' hm' HR.out HRW.out).mono ?_; rw [← HF.out]; rintro e w' ⟨rfl, rfl⟩) | (at_builtin; refine wpList_append_own _ rfl (.tmp 19) (.tmp 21) 22 rfl w.heap.size 21 i0 (.int .i32 0) 1 4 Try.underlying22 hi hz0 hz1 hz2 rfl (by decide) _ _ _ rfl (HO.out.alloc _) ⟨_, 0, none⟩ 1 1 [.int .i32 c] rfl rfl (news_pre (heap_alloc_new _ _) rfl) ?hone1 ?h631 ?hby1 ?hbase1 ?_))
          case hone1 => simp [Value.oneCell']
          case h631 => unfold maxLen; omega
          case hby1 => omega
          case hbase1 => simp; omega
          intro v1 w1 hown1 hgrow1 _
          have HB1 : Hid (Below w.heap.size _ w1) := ((Below.refl w.heap.size _).alloc hsz _).grown hgrow1 (by simp; omega) (fun k hk => (HO.out.lt k hk).1)
          have HO1 : Hid (w1.ownsRow w.heap.size 21 1 v1 (ps.length + 1) (ps.map (Value.int .i32) ++ [.int .i32 c])) := hown1
          clear hown1 hgrow1
          go_wp2
          go_roundw
          case rel => exact decAt_step (cap' := cap') (n := cap') hn1 hcap' hm' HCW.out HR.out HD.out HLL.out HF.out.symm hn2 hn3 HO1.out HB.out HB1.out (.inr ⟨by omega, by omega, by omega⟩)
          case measure => simp [slen]; omega
        · go_wp2_with (first | (go_at_call 12; refine (first_any (x :: r) _ _ _ _ hcap' hm' HR.out HRW.out).mono ?_; rw [← HF.out]; rintro e w' ⟨rfl, rfl⟩) | (at_builtin; refine wpList_append_own _ rfl (.tmp 19) (.tmp 21) 22 rfl w.heap.size 21 i0 (.int .i32 0) 1 4 Try.underlying22 hi hz0 hz1 hz2 rfl (by decide) _ _ _ rfl (HO.out.alloc _) ⟨_, 0, none⟩ 1 1 [.int .i32 c] rfl rfl (news_pre (heap_alloc_new _ _) rfl) ?hone2 ?h632 ?hby2 ?hbase2 ?_))
          case hone2 => simp [Value.oneCell']
          case h632 => unfold maxLen; omega
          case hby2 => omega
          case hbase2 => simp; omega
          intro v1 w1 hown1 hgrow1 _
          have HB1 : Hid (Below w.heap.size _ w1) := ((Below.refl w.heap.size _).alloc hsz _).grown hgrow1 (by simp; omega) (fun k hk => (HO.out.lt k hk).1)
          have HO1 : Hid (w1.ownsRow w.heap.size 21 1 v1 (ps.length + 1) (ps.map (Value.int .i32) ++ [.int .i32 c])) := hown1
          clear hown1 hgrow1
          go_wp2
          go_roundw
          case rel => exact decAt_step (cap' := cap') (n := n) hn1 hcap' hm' HCW.out HR.out HD.out HLL.out HF.out.symm hn2 hn3 HO1.out HB.out HB1.out (.inl ⟨rfl, rfl, rfl⟩)
          case measure => simp [slen]; omega
      · have he' : (er != 0) = true := by simpa using he
        go_wp2_with (first | (go_at_call 12; refine (first_any (x :: r) _ _ _ _ hcap' hm' HR.out HRW.out).mono ?_; rw [← HF.out]; rintro e w' ⟨rfl, rfl⟩))
        go_ret2
        exact ⟨HB.out, .inl ⟨by rw [HD.out, dec_bad x r (by rw [← HF.out]; exact he)]; rfl, rfl⟩⟩
end Go.Proofs.Ytdoflmgdmcmmfaa
