/- Walks of Put and PutText, by what they give; the reading functions. -/
import Derived.Test.YtcbnmahbdcjamaaPackB
namespace Go.Proofs.Ytcbnmahbdcjamaa
open Go.RowKit
set_option linter.unusedVariables false

theorem put_any (a : Option Addr) (len cap : Nat) (xs : List Int) (v : Int) (w : World) (h0 : 0 ≤ v) (h1 : v ≤ 18446744073709551615) (hrd : Rd .u8 w a len xs) (hnone : a = none → cap = 0) (hlen : len ≤ 100000000000) :
    Calls Try.prog 150 #[.slice a len cap, .int .u64 v] w fun e w' => Below w.heap.size w w' ∧ ∃ a' cap', e = .returned (.slice a' (len + (pk v).length) cap') ∧ len + (pk v).length ≤ cap' ∧ cap' ≤ 9223372036854775807 ∧ Rd .u8 w' a' (len + (pk v).length) (xs ++ pk v) ∧ (a' = none → cap' = 0) := by
  have HR : Hid (Rd .u8 w a len xs) := hrd
  have HN : Hid (a = none → cap = 0) := hnone
  have hl := pk_len v
  clear hrd hnone
  go_enter Try.func150, Try.ntmps150
  go_wp2_with fail
  refine (size_any v _ h0 h1).mono ?_
  rintro e w' ⟨rfl, hw'⟩
  obtain rfl : w = w' := hw'.symm
  go_wp2_with fail
  refine (room_any a len cap (pk v).length xs _ HR.out HN.out (by omega) (by omega)).mono ?_
  rintro e w1 ⟨v1, rfl, hown1, hb1⟩
  have HB1 : Hid (Below w.heap.size w w1) := hb1
  have HO1 : Hid (w1.ownsRow w.heap.size 5 1 v1 len (xs.map (Value.int .u8))) := hown1
  clear hown1 hb1
  go_wp2_with fail
  refine (lay_any w.heap.size v1 len xs v _ h0 h1 HO1.out (by omega) HB1.out.size).mono ?_
  rintro e w2 ⟨v2, rfl, hown2, hb2⟩
  have HB2 : Hid (Below w.heap.size w w2) := HB1.out.trans hb2
  obtain ⟨a2, cap2, rfl, hc2, hm2, hr2, hn2⟩ := rd_own2 hown2
  have HR2 : Hid (Rd .u8 w2 a2 (len + (pk v).length) (xs ++ pk v)) := hr2
  have HN2 : Hid (a2 = none → cap2 = 0) := hn2
  clear hown2 hb2 hr2 hn2
  go_wp2
  go_ret
  exact ⟨HB2.out, a2, cap2, rfl, hc2, hm2, HR2.out, HN2.out⟩

theorem puttext_own (a : Option Addr) (len cap : Nat) (xs ts : List Int) (w : World) (hts : ts.length ≤ 100000000000) (hrt : ∀ y ∈ ts, 0 ≤ y ∧ y ≤ 255) (hrd : Rd .u8 w a len xs) (hnone : a = none → cap = 0) (hlen : len ≤ 100000000000) :
    Calls Try.prog 67 #[.slice a len cap, .string (strOfNums ts)] w fun e w' => Below w.heap.size w w' ∧ ∃ v', e = .returned v' ∧ w'.ownsRow w.heap.size 5 1 v' (len + (pt ts).length) ((xs ++ pt ts).map (Value.int .u8)) := by
  have HR : Hid (Rd .u8 w a len xs) := hrd
  have HN : Hid (a = none → cap = 0) := hnone
  have HT : Hid (∀ y ∈ ts, 0 ≤ y ∧ y ≤ 255) := hrt
  have hsz := strOfNums_size ts
  have HPT : Hid ((pt ts) = pk (ts.length : Nat) ++ ts) := rfl
  have hl := pk_len (ts.length : Nat)
  clear hrd hnone hrt
  go_enter Try.func67, Try.ntmps67
  go_wp2_with fail
  refine (size_any (ts.length : Nat) _ (by omega) (by omega)).mono ?_
  rintro e w' ⟨rfl, hw'⟩
  obtain rfl : w = w' := hw'.symm
  go_wp2_with fail
  refine (room_any a len cap ((pk (ts.length : Nat)).length + ts.length) xs _ HR.out HN.out (by omega) (by omega)).mono ?_
  rintro e w1 ⟨v1, rfl, hown1, hb1⟩
  have HB1 : Hid (Below w.heap.size w w1) := hb1
  have HO1 : Hid (w1.ownsRow w.heap.size 5 1 v1 len (xs.map (Value.int .u8))) := hown1
  clear hown1 hb1
  go_wp2_with fail
  refine (lay_any w.heap.size v1 len xs (ts.length : Nat) _ (by omega) (by omega) HO1.out (by omega) HB1.out.size).mono ?_
  rintro e w2 ⟨v2, rfl, hown2, hb2⟩
  have HB2 : Hid (Below w.heap.size w w2) := HB1.out.trans hb2
  have HO2 : Hid (w2.ownsRow w.heap.size 5 1 v2 (len + (pk (ts.length : Nat)).length) ((xs ++ pk (ts.length : Nat)).map (Value.int .u8))) := hown2
  clear hown2 hb2
  go_wp2_with (at_builtin; refine wpList_append_nums rfl (.tmp 17) (.tmp 18) rfl w.heap.size _ _ (xs ++ pk (ts.length : Nat)) rfl HO2.out ts HT.out rfl ?hby ?hbase ?_)
  case hby => omega
  case hbase => exact HB2.out.size
  intro v3 w3 hown3 hgrow3
  have HB3 : Hid (Below w.heap.size w w3) := HB2.out.grown hgrow3 HB2.out.size (fun k hk => (HO2.out.lt k hk).1)
  have e3 : len + (pk (ts.length : Nat)).length + ts.length = len + (pt ts).length := by rw [HPT.out]; simp; omega
  rw [e3, ← List.map_append, ← HPT.out, ← List.map_append] at hown3
  have HO3 : Hid (w3.ownsRow w.heap.size 5 1 v3 (len + (pt ts).length) ((xs ++ pt ts).map (Value.int .u8))) := hown3
  clear hown3 hgrow3 e3
  go_wp2
  go_ret
  exact ⟨HB3.out, v3, rfl, HO3.out⟩
theorem puttext_any (a : Option Addr) (len cap : Nat) (xs ts : List Int) (w : World) (hts : ts.length ≤ 100000000000) (hrt : ∀ y ∈ ts, 0 ≤ y ∧ y ≤ 255) (hrd : Rd .u8 w a len xs) (hnone : a = none → cap = 0) (hlen : len ≤ 100000000000) :
    Calls Try.prog 67 #[.slice a len cap, .string (strOfNums ts)] w fun e w' => Below w.heap.size w w' ∧ ∃ a' cap', e = .returned (.slice a' (len + (pt ts).length) cap') ∧ len + (pt ts).length ≤ cap' ∧ cap' ≤ 9223372036854775807 ∧ Rd .u8 w' a' (len + (pt ts).length) (xs ++ pt ts) ∧ (a' = none → cap' = 0) :=
  (puttext_own a len cap xs ts w hts hrt hrd hnone hlen).mono fun e w' h => by
    obtain ⟨hb, v', rfl, ho⟩ := h
    obtain ⟨a2, cap2, rfl, hc2, hm2, hr2, hn2⟩ := rd_own2 ho
    exact ⟨hb, a2, cap2, rfl, hc2, hm2, hr2, hn2⟩
end Go.Proofs.Ytcbnmahbdcjamaa
