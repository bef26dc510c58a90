/- Walks of the reference: Decode, Encode. -/
import Derived.Test.YtdoflmgdmcmmfaaUtfZA
namespace Go.Proofs.Ytdoflmgdmcmmfaa
open Go.RowKit
set_option linter.unusedVariables false

theorem ret_str {s t : ByteArray} {k : IntKind} {n : Int} (h : s = t) : Ending.returned (.tuple #[.string s, .int k n]) = .returned (.tuple #[.string t, .int k n]) := by rw [h]
def strl : Value → Nat
  | .string s => s.size
  | _ => 0

/-- Where the reference's Decode stands. -/
def RDecAt (bs : List Int) (w : World) (v0 v4 : Value) (wr : World) : Prop :=
  ∃ (rem ps : List Int), v0 = .string (strOfNums rem) ∧ (∀ y ∈ rem, 0 ≤ y ∧ y ≤ 255) ∧
    dec bs = (dec rem).map (ps ++ ·) ∧ ps.length + rem.length ≤ bs.length ∧ wr.ownsRow w.heap.size 21 1 v4 ps.length (ps.map (Value.int .i32)) ∧ Below w.heap.size w wr

theorem own_later {w w' : World} {B : Nat} {e : TypeId} {v : Value} {n : Nat} {xs : List Value} (h : w.ownsRow B e 1 v n xs) (hb : Below w.heap.size w w') : w'.ownsRow B e 1 v n xs :=
  h.kept (row := none) ⟨hb.os, hb.tape, hb.output, hb.size, fun k hk _ => hb.block k hk⟩ (Classical.em _)

set_option maxHeartbeats 2000000 in
theorem rdecode_any (bs : List Int) (w : World) (hlen : bs.length ≤ 100000000000) (hr : ∀ y ∈ bs, 0 ≤ y ∧ y ≤ 255) :
    Calls Try.prog 15 #[.string (strOfNums bs)] w fun e w' => Below w.heap.size w w' ∧
      ((dec bs = none ∧ e = .returned (.tuple #[.slice none 0 0, .int .i64 2])) ∨
       (∃ cs v, dec bs = some cs ∧ cs.length ≤ bs.length ∧ e = .returned (.tuple #[v, .int .i64 0]) ∧ w'.ownsRow w.heap.size 21 1 v cs.length (cs.map (Value.int .i32)))) := by
  obtain ⟨i0, hi, hz0, hz1, hz2⟩ := info_parts info_i32
  have HS : Hid (RDecAt bs w (.string (strOfNums bs)) (.slice none 0 0) w) := ⟨bs, [], rfl, hr, by simp, by simp, World.ownsRow_nil _ _ _ _, Below.refl _ _⟩
  have HLEN : Hid (bs.length ≤ 100000000000) := hlen
  clear hr hlen
  go_enter Try.func15, Try.ntmps15
  go_wp2
  go_loopw [0, 4] (fun v0 v4 wr => RDecAt bs w v0 v4 wr) (fun v0 _ _ => strl v0)
  case atStart => exact HS.out
  case round =>
    obtain ⟨rem, ps, hv0, hr', hd', hl', hown, hbel⟩ := hrel
    subst hv0
    have HO : Hid (wr.ownsRow w.heap.size 21 1 _ ps.length (ps.map (Value.int .i32))) := hown
    have HB : Hid (Below w.heap.size w wr) := hbel
    have HD : Hid (dec bs = (dec rem).map (ps ++ ·)) := hd'
    have HR : Hid (∀ y ∈ rem, 0 ≤ y ∧ y ≤ 255) := hr'
    have HLL : Hid (ps.length + rem.length ≤ bs.length) := hl'
    have hrl : rem.length ≤ 100000000000 := by have := HLEN.out; omega
    have hpl : ps.length ≤ 100000000000 := by have := HLEN.out; omega
    have hsz := strOfNums_size rem
    clear hown hbel hd' hr' hl' HS
    cases rem with
    | nil =>
      have he := str_none
      go_wp2
      go_ret2
      exact ⟨HB.out, .inr ⟨ps, _, by rw [HD.out, dec_nil]; simp, by have := HLL.out; simp at this; omega, rfl, HO.out⟩⟩
    | cons x r =>
      have he := str_some (x :: r) (by simp)
      obtain ⟨⟨c, n, er⟩, hF⟩ : ∃ F : Int × Int × Int, F = first (x :: r) := ⟨_, rfl⟩
      have HF : Hid ((c, n, er) = first (x :: r)) := hF
      have hx := HR.out x (by simp)
      have HFC : Hid (∀ W, Calls Try.prog 13 #[.string (strOfNums (x :: r))] W fun e w' => e = .returned (.tuple #[.int .i32 c, .int .i64 n, .int .i64 er]) ∧ Below W.heap.size W w') := by
        intro W
        have := rfirst_any (x :: r) W hrl HR.out
        rw [← HF.out] at this
        exact this
      clear hF
      by_cases h0 : er = 0
      · subst h0
        have hnn := first_n x r hx.1 hx.2 (by rw [← HF.out])
        rw [← HF.out] at hnn
        obtain ⟨n, rfl⟩ : ∃ m : Nat, n = (m : Int) := ⟨n.toNat, by simp at hnn; omega⟩
        simp at hnn
        have hn2 : 1 ≤ n := by omega
        have hn3 : n ≤ (x :: r).length := by simp; omega
        have hcut := str_drop (x :: r) n hn3
        have HDR : Hid ((x :: r).drop n = r.drop (n - 1)) := by
          show _ = _; rw [show n = (n - 1) + 1 by omega]; simp
        clear hnn hx
        go_wp2_with fail
        refine (HFC.out _).mono ?_
        rintro e w1 ⟨rfl, hb1⟩
        have HB1 : Hid (Below w.heap.size w w1) := HB.out.trans (hb1.mono HB.out.size)
        have HO1 : Hid (w1.ownsRow w.heap.size 21 1 _ ps.length (ps.map (Value.int .i32))) := own_later HO.out hb1
        have hs1 := HB1.out.size
        clear hb1
        go_wp2_with (first | (at_builtin; refine wpList_append_own _ rfl (.tmp 18) (.tmp 20) 22 rfl w.heap.size 21 i0 (.int .i32 0) 1 4 Try.underlying22 hi hz0 hz1 hz2 rfl (by decide) _ _ _ rfl (HO1.out.alloc _) ⟨_, 0, none⟩ 1 1 [.int .i32 c] rfl rfl (news_pre (heap_alloc_new _ _) rfl) ?hone ?h63 ?hby ?hbase ?_))
        case hone => simp [Value.oneCell']
        case h63 => unfold maxLen; omega
        case hby => omega
        case hbase => simp; omega
        intro v2 w2 hown2 hgrow2 _
        have HB2 : Hid (Below w.heap.size w w2) := (HB1.out.alloc hs1 _).grown hgrow2 (by simp; omega) (fun k hk => (HO1.out.lt k hk).1)
        have HO2 : Hid (w2.ownsRow w.heap.size 21 1 v2 (ps.length + 1) (ps.map (Value.int .i32) ++ [.int .i32 c])) := hown2
        clear hown2 hgrow2
        go_wp2
        go_roundw
        case rel =>
          refine ⟨r.drop (n - 1), ps ++ [c], by rw [← HDR.out], fun y hy => HR.out y (List.mem_cons_of_mem _ (List.mem_of_mem_drop hy)), ?_, ?_, ?_, HB2.out⟩
          · have hd2 := dec_ok x r (by rw [← HF.out])
            rw [← HF.out] at hd2
            rw [HD.out, hd2]
            simp [Function.comp_def]
          · have := HLL.out; simp at this ⊢; omega
          · simpa using HO2.out
        case measure => simp [strl, strOfNums_size]; omega
      · have he' : (er != 0) = true := by simpa using h0
        go_wp2_with fail
        refine (HFC.out _).mono ?_
        rintro e w1 ⟨rfl, hb1⟩
        have HB1 : Hid (Below w.heap.size w w1) := HB.out.trans (hb1.mono HB.out.size)
        clear hb1
        go_wp2
        go_ret2
        exact ⟨HB1.out, .inl ⟨by rw [HD.out, dec_bad x r (by rw [← HF.out]; exact h0)]; rfl, rfl⟩⟩

set_option maxHeartbeats 2000000 in
/-- Encode of the reference, of any characters that can be read. -/
theorem rencode_any (l : List Int) (a : Option Addr) (len cap : Nat) (w : World) (hlen : len ≤ 10000000000) (hrd : Rd .i32 w a len l) :
    Calls Try.prog 11 #[.slice a len cap] w fun e w' => Below w.heap.size w w' ∧
      ((oks l = false ∧ e = .returned (.tuple #[.string (strOfNums []), .int .i64 1])) ∨ (oks l = true ∧ e = .returned (.tuple #[.string (strOfNums (encs l)), .int .i64 0]))) := by
  have H0 : Hid (Rd .i32 w a len l) := hrd
  have HL : Hid (l.length = len) := hrd.1
  have HE0 : Hid (strOfNums [] = ⟨#[]⟩) := rfl
  clear hrd
  go_enter Try.func11, Try.ntmps11
  go_wp2
  go_loopw [4, 5] (fun s i wr => ∃ k : Nat, k ≤ len ∧ i = .int .i64 k ∧ s = .string (strOfNums (encs (l.take k))) ∧ oks (l.take k) = true ∧ Below w.heap.size w wr) (fun _ i _ => len - (intOf i).toNat)
  case atStart => exact ⟨0, by omega, rfl, rfl, rfl, Below.refl _ _⟩
  case round =>
    obtain ⟨k, hk, rfl, rfl, hok, hbr⟩ := hrel
    have HOK : Hid (oks (l.take k) = true) := hok
    have HBR : Hid (Below w.heap.size w wr) := hbr
    clear hok hbr
    by_cases hlt : k < len
    · obtain ⟨b, off, rfl, hcl⟩ := (H0.out.later HBR.out).2 (by omega)
      have hcc := hcl k hlt
      obtain ⟨c, hcd⟩ : ∃ c, c = l.getD k 0 := ⟨_, rfl⟩
      rw [← hcd] at hcc
      have HCD : Hid (c = l.getD k 0) := hcd
      have hklt : k < l.length := by have := HL.out; omega
      have HKL : Hid (k < l.length) := hklt
      clear hcl hcd hklt
      by_cases hs : sz c = 0
      · have hs' : (sz c == 0) = true := by simpa using hs
        have HOF : Hid (oks l = false) := oks_not l k HKL.out (by rw [← HCD.out]; exact hs)
        clear hs
        go_wp2_with (first | (go_at_call 18; refine (rsize_any _ _).mono ?_; rintro e w' ⟨rfl, hw'⟩; obtain rfl : wr = w' := hw'.symm))
        go_ret2
        exact ⟨HBR.out, .inl ⟨HOF.out, rfl⟩⟩
      · have hs' : (sz c == 0) = false := by simpa using hs
        have HS : Hid (sz c ≠ 0) := hs
        have hadd := add_str (encs (l.take k)) (by8 c) (by have := encs_take_len l k; have := by8_len c; omega)
        have HT : Hid (encs (l.take (k + 1)) = encs (l.take k) ++ by8 c) := by show _ = _; rw [encs_take l k HKL.out, HCD.out]
        clear hs
        go_wp2_with (first | (go_at_call 18; refine (rsize_any _ _).mono ?_; rintro e w' ⟨rfl, hw'⟩; obtain rfl : wr = w' := hw'.symm) | (go_at_call 22; refine (one_any _ _ HS.out).mono ?_; rintro e w1 ⟨rfl, hb1⟩; have HB1 : Hid (Below wr.heap.size wr w1) := hb1; clear hb1))
        go_roundw
        case rel => exact ⟨k + 1, by omega, by go_num, by rw [HT.out], by rw [oks_take l k HKL.out, HOK.out, ← HCD.out]; simpa using HS.out, HBR.out.trans (HB1.out.mono HBR.out.size)⟩
        case measure => simp [intOf]; omega
    · have HT : Hid (l.take k = l) := List.take_of_length_le (by have := HL.out; omega)
      have HT2 : Hid (strOfNums (encs (l.take k)) = strOfNums (encs l)) := by show _ = _; rw [HT.out]
      go_wp2
      go_ret2
      refine ⟨HBR.out, .inr ⟨?_, ?_⟩⟩
      · have := HOK.out; rwa [HT.out] at this
      · exact ret_str HT2.out
end Go.Proofs.Ytdoflmgdmcmmfaa
