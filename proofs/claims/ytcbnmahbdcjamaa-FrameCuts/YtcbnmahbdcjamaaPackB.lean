/- Walks of room, lay, Put, PutText: the bytes behind others, in new memory. -/
import Derived.Test.YtcbnmahbdcjamaaPackA
namespace Go.Proofs.Ytcbnmahbdcjamaa
open Go.RowKit
set_option linter.unusedVariables false

theorem and_127 (u : Int) (h0 : 0 ≤ u) (h1 : u ≤ 18446744073709551615) : bits .and .u64 u 127 = u % 128 := by go_bits2
theorem or_128 (y : Int) (h0 : 0 ≤ y) (h1 : y < 128) : bits .or .u8 128 y = 128 + y := by
  rw [u8_or 128 y (by omega) (by omega) h0 (by omega)]
  have : (128 ||| y.toNat : Nat) = 128 + y.toNat := by
    have := Nat.two_pow_add_eq_or_of_lt (i := 7) (b := y.toNat) (by omega) 1
    simpa using this.symm
  simp [this]; omega

theorem room_any (a : Option Addr) (len cap m : Nat) (xs : List Int) (w : World) (hrd : Rd .u8 w a len xs) (hnone : a = none → cap = 0) (hlen : len ≤ 200000000000) (hm : m ≤ 200000000000) :
    Calls Try.prog 117 #[.slice a len cap, .int .i64 m] w fun e w' => ∃ v, e = .returned v ∧ w'.ownsRow w.heap.size 5 1 v len (xs.map (Value.int .u8)) ∧ Below w.heap.size w w' := by
  obtain ⟨i0, hi, hz0, hz1, hz2⟩ := info_parts info_u8
  have HR : Hid (Rd .u8 w a len xs) := hrd
  have HN : Hid (a = none → cap = 0) := hnone
  clear hrd hnone
  go_enter Try.func117, Try.ntmps117
  go_wp2_with (at_make; refine wpList_make_own _ rfl _ _ 53 rfl w.heap.size 5 i0 (.int .u8 0) 1 Try.underlying53 hi hz0 hz1 .i64 .i64 _ (len + m) rfl rfl rfl ?m1 ?m2 ?m3 ?_)
  case m1 => rw [hz2]; omega
  case m2 => unfold maxLen; omega
  case m3 => omega
  intro w1 hown1 hgrow1
  have HB1 : Hid (Below w.heap.size w w1) := (Below.refl _ w).grown hgrow1 (by omega) (by simp)
  have HO1 : Hid (w1.ownsRow w.heap.size 5 1 (.slice (some ⟨w.heap.size, 0, none⟩) 0 (len + m)) 0 []) := hown1
  clear hown1 hgrow1
  go_wp2_with (at_builtin; refine wpList_append_rd rfl (.tmp 9) (.tmp 10) 53 rfl w.heap.size 5 i0 (.int .u8 0) 1 Try.underlying53 hi hz0 hz1 hz2 rfl _ 0 [] rfl HO1.out a len cap .u8 xs rfl (HR.out.later HB1.out) HN.out ?h63 ?hby ?hbase ?_)
  case h63 => unfold maxLen; omega
  case hby => omega
  case hbase => exact HB1.out.size
  intro v2 w2 hown2 hgrow2
  have HO2 : Hid (w2.ownsRow w.heap.size 5 1 v2 len (xs.map (Value.int .u8))) := by show World.ownsRow _ _ _ _ _ _ _; simpa using hown2
  have HB2 : Hid (Below w.heap.size w w2) := HB1.out.grown hgrow2 HB1.out.size (fun k hk => (HO1.out.lt k hk).1)
  clear hown2 hgrow2
  go_wp2
  go_ret
  exact ⟨v2, rfl, HO2.out, HB2.out⟩

/-- Where lay stands. -/
def LayAt (B n : Nat) (xs : List Int) (v : Int) (w : World) (v0 v1 : Value) (wr : World) : Prop :=
  ∃ (u : Int) (ps : List Int), v1 = .int .u64 u ∧ 0 ≤ u ∧ u ≤ 18446744073709551615 ∧ pk v = ps ++ pk u ∧ wr.ownsRow B 5 1 v0 (n + ps.length) ((xs ++ ps).map (Value.int .u8)) ∧ Below B w wr

set_option maxHeartbeats 1000000 in
theorem lay_any (B : Nat) (v0 : Value) (n : Nat) (xs : List Int) (v : Int) (w : World) (h0 : 0 ≤ v) (h1 : v ≤ 18446744073709551615) (hown : w.ownsRow B 5 1 v0 n (xs.map (Value.int .u8))) (hn : n ≤ 200000000000) (hB : B ≤ w.heap.size) :
    Calls Try.prog 116 #[v0, .int .u64 v] w fun e w' => ∃ v', e = .returned v' ∧ w'.ownsRow B 5 1 v' (n + (pk v).length) ((xs ++ pk v).map (Value.int .u8)) ∧ Below B w w' := by
  obtain ⟨i0, hi, hz0, hz1, hz2⟩ := info_parts info_u8
  have HS : Hid (LayAt B n xs v w v0 (.int .u64 v) w) := ⟨v, [], rfl, h0, h1, by simp, by simpa using hown, Below.refl _ _⟩
  have HPL : Hid ((pk v).length ≤ 10) := (pk_len v).2
  clear hown
  go_enter Try.func116, Try.ntmps116
  go_wp2
  go_loopw [0, 1] (fun x0 x1 wr => LayAt B n xs v w x0 x1 wr) (fun _ x1 _ => (intOf x1).toNat)
  case atStart => exact HS.out
  case round =>
    obtain ⟨u, ps, hx1, hu0, hu1, hpk, hown, hbel⟩ := hrel
    subst hx1
    have HO : Hid (wr.ownsRow B 5 1 _ (n + ps.length) ((xs ++ ps).map (Value.int .u8))) := hown
    have HB : Hid (Below B w wr) := hbel
    have HK : Hid (pk v = ps ++ pk u) := hpk
    have hsz := hbel.size
    have hpl : ps.length ≤ 10 := by have := HPL.out; rw [hpk] at this; simp at this; omega
    have hBr : B ≤ wr.heap.size := by omega
    clear hown hbel hpk HS
    by_cases hu : 127 < u
    · have hand := and_127 u hu0 hu1
      have hor := or_128 (u % 128) (by omega) (by omega)
      go_wp2_with (at_builtin; refine wpList_append_own _ rfl (.tmp 7) (.tmp 12) 53 rfl B 5 i0 (.int .u8 0) 1 1 Try.underlying53 hi hz0 hz1 hz2 rfl (by decide) _ _ _ rfl (HO.out.alloc _) ⟨_, 0, none⟩ 1 1 [.int .u8 (128 + u % 128)] rfl rfl (news_pre (heap_alloc_new _ _) rfl) ?hone ?h63 ?hby ?hbase ?_)
      case hone => simp [Value.oneCell']
      case h63 => unfold maxLen; omega
      case hby => omega
      case hbase => simp; omega
      intro v1 w1 hown1 hgrow1 _
      have HB1 : Hid (Below B w w1) := (HB.out.alloc hBr _).grown hgrow1 (by simp; omega) (fun k hk => (HO.out.lt k hk).1)
      have HO1 : Hid (w1.ownsRow B 5 1 v1 (n + (ps ++ [128 + u % 128]).length) ((xs ++ (ps ++ [128 + u % 128])).map (Value.int .u8))) := by
        have e1 : n + (ps ++ [128 + u % 128]).length = n + ps.length + 1 := by simp; omega
        show World.ownsRow _ _ _ _ _ _ _
        rw [e1]; simpa using hown1
      clear hown1 hgrow1
      go_wp2
      go_roundw
      case rel => exact ⟨u / 128, ps ++ [128 + u % 128], by go_num, by omega, by omega, by rw [HK.out, pk_high u hu hu1]; simp, HO1.out, HB1.out⟩
      case measure => simp [intOf]; omega
    · have HKE : Hid (pk v = ps ++ [u]) := by rw [HK.out, pk_low u (by omega)]; rfl
      go_wp2_with (at_builtin; refine wpList_append_own _ rfl (.tmp 16) (.tmp 19) 53 rfl B 5 i0 (.int .u8 0) 1 1 Try.underlying53 hi hz0 hz1 hz2 rfl (by decide) _ _ _ rfl (HO.out.alloc _) ⟨_, 0, none⟩ 1 1 [.int .u8 u] rfl rfl (news_pre (heap_alloc_new _ _) rfl) ?hone ?h63 ?hby ?hbase ?_)
      case hone => simp [Value.oneCell']
      case h63 => unfold maxLen; omega
      case hby => omega
      case hbase => first | omega | (simp; omega)
      intro v1 w1 hown1 hgrow1 _
      have HB1 : Hid (Below B w w1) := (HB.out.alloc hBr _).grown hgrow1 (by simp; omega) (fun k hk => (HO.out.lt k hk).1)
      have HO1 : Hid (w1.ownsRow B 5 1 v1 (n + (pk v).length) ((xs ++ pk v).map (Value.int .u8))) := by
        show World.ownsRow _ _ _ _ _ _ _
        rw [HKE.out]
        have e1 : n + (ps ++ [u]).length = n + ps.length + 1 := by simp; omega
        rw [e1]; simpa using hown1
      clear hown1 hgrow1
      go_wp2
      go_ret
      exact ⟨v1, rfl, HO1.out, HB1.out⟩
end Go.Proofs.Ytcbnmahbdcjamaa
