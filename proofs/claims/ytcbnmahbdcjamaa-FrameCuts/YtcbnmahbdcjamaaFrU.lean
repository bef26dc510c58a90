/- The walk of the statements' shown. -/
import Derived.Test.YtcbnmahbdcjamaaFrT
import Derived.Test.YtcbnmahbdcjamaaFrO
namespace Go.Proofs.Ytcbnmahbdcjamaa
open Go.RowKit Go.Sort
set_option linter.unusedVariables false
set_option linter.unusedSimpArgs false

def f0F : Frm := ⟨2, 1, [], [], 0⟩
theorem rdP_nil (W : World) : RdP W none 0 [] := ⟨rfl, fun h => absurd h (by omega)⟩
theorem at0 (W : World) (k g x : Int) : FrAt W (.agg #[.int .i64 k, .int .i64 g, .slice none 0 0, .slice none 0 0, .int .i64 x]) ⟨k, g, [], [], x⟩ := ⟨none, 0, 0, none, 0, 0, rfl, rdE_nil W, rdP_nil W⟩
theorem hd0 : hdN (bodyN f0F) = [70, 67, 5, 2, 1, 0, 0, 0] := by decide
theorem by0 : bytesN f0F = [70, 67, 5, 2, 1, 0, 0, 0] ++ s4 (up 0 [70, 67, 5, 2, 1, 0, 0, 0]) := by
  show hdN (bodyN f0F) ++ s4 (up 0 (hdN (bodyN f0F))) = _
  rw [hd0]
theorem fr0 : frB f0F = true := by decide
theorem ok0 : okF f0F := frB_ok f0F fr0 (by decide) (by decide)
theorem len0 : (bytesN f0F).length = 12 := by rw [by0]; rfl
theorem of0 : ofN (bytesN f0F) = some f0F := of_back f0F fr0 ok0 (by decide)
theorem ofNil : ofN [] = none := by decide
theorem oa0 : oaN (bytesN f0F) = (bodyN f0F, 12, true) := by
  have h := opn_wrap (bodyN f0F) [] (by decide)
  rw [List.append_nil] at h
  unfold oaN
  rw [show bytesN f0F = wrapN (bodyN f0F) from rfl, h]
  have := len0
  rw [show bytesN f0F = wrapN (bodyN f0F) from rfl] at this
  rw [this]
  rfl
theorem byt0 : Byt (bytesN f0F) := wrapN_byt _ (bodyN_byt _ ok0) (by decide)
theorem take0 : (bytesN f0F).take 8 = [70, 67, 5, 2, 1, 0, 0, 0] := by rw [by0]; rfl
theorem str0 : strOfNums [70, 67, 5, 2, 1, 0, 0, 0] = ⟨#[70, 67, 5, 2, 1, 0, 0, 0]⟩ := rfl
set_option maxRecDepth 100000 in
set_option maxHeartbeats 4000000 in
theorem shown15_any (w : World) : Calls Try.prog 24 #[] w fun e w' => e = .returned (.bool true) ∧ Below w.heap.size w w' := by
  have HBY : Hid (∀ W, Calls Try.prog 26 #[.agg #[.int .i64 2, .int .i64 1, .slice none 0 0, .slice none 0 0, .int .i64 0]] W fun e w' => ∃ a c, e = .returned (.tuple #[.slice a 12 c, .int .i64 0]) ∧ 12 ≤ c ∧ Rd .u8 w' a 12 (bytesN f0F) ∧ Below W.heap.size W w') := fun W =>
    (frBytes_any f0F _ W (at0 W 2 1 0) (by decide) (by decide)).mono fun e w' h => by
      obtain ⟨h1, h2, h3⟩ := h
      obtain ⟨v', rfl, ho⟩ := h2 fr0
      obtain ⟨a, c, rfl, hc, _, hr, _⟩ := rd_own2 ho
      rw [len0] at hc hr
      exact ⟨a, c, by rw [len0], hc, hr, h1⟩
  have HBZ : Hid (∀ W, Calls Try.prog 26 #[.agg #[.int .i64 0, .int .i64 0, .slice none 0 0, .slice none 0 0, .int .i64 0]] W fun e w' => e = .returned (.tuple #[.slice none 0 0, .int .i64 1]) ∧ Below W.heap.size W w') := fun W =>
    (frBytes_any ⟨0, 0, [], [], 0⟩ _ W (at0 W 0 0 0) (by decide) (by decide)).mono fun e w' h => ⟨h.2.2 (by decide), h.1⟩
  have HRT : Hid (∀ W, Calls Try.prog 29 #[.agg #[.int .i64 2, .int .i64 1, .slice none 0 0, .slice none 0 0, .int .i64 0]] W fun e w' => e = .returned (.bool true) ∧ Below W.heap.size W w') := fun W => by
    have := frRight_any f0F _ W (at0 W 2 1 0) (by decide) (by decide)
    rw [fr0] at this
    exact this
  have HON : Hid (∀ W, Calls Try.prog 34 #[.slice none 0 0] W fun e w' => e = .returned (.tuple #[frV 0 0 none 0 0 none 0 0 0, .int .i64 2]) ∧ Below W.heap.size W w') := fun W =>
    (frOf_any [] none 0 0 W (fun y h => by cases h) (rd_nil _ _) (by omega) (by omega)).mono fun e w' h => ⟨h.2.1 ofNil, h.1⟩
  have HOF : Hid (∀ W a c, 12 ≤ c → Rd .u8 W a 12 (bytesN f0F) → Calls Try.prog 34 #[.slice a 12 c] W fun e w' => ∃ va vn vc oa on oc, e = .returned (.tuple #[frV 2 1 va vn vc oa on oc 0, .int .i64 0]) ∧ FrAt w' (frV 2 1 va vn vc oa on oc 0) f0F ∧ Below W.heap.size W w') := fun W a c hc hr =>
    (frOf_any (bytesN f0F) a 12 c W byt0 hr hc (by omega)).mono fun e w' h => by
      obtain ⟨v, rfl, hat⟩ := h.2.2 f0F of0
      have hat2 := hat
      obtain ⟨va, vn, vc, oa, on, oc, rfl, _⟩ := hat2
      exact ⟨va, vn, vc, oa, on, oc, rfl, hat, h.1⟩
  have HCU : Hid (∀ W a c, 12 ≤ c → Rd .u8 W a 12 (bytesN f0F) → Calls Try.prog 33 #[.slice a 12 c] W fun e w' => e = .returned (.tuple #[.int .i64 12, .bool true]) ∧ Below W.heap.size W w') := fun W a c hc hr => by
    have := frCut_any (bytesN f0F) a 12 c W byt0 hr hc (by omega)
    rw [oa0] at this
    exact this
  have HSM : Hid (∀ W va vn vc oa on oc, FrAt W (frV 2 1 va vn vc oa on oc 0) f0F → Calls Try.prog 28 #[frV 2 1 va vn vc oa on oc 0, .agg #[.int .i64 2, .int .i64 1, .slice none 0 0, .slice none 0 0, .int .i64 0]] W fun e w' => e = .returned (.bool true) ∧ Below W.heap.size W w') := fun W va vn vc oa on oc h => refSame_any f0F f0F _ _ W h (at0 W 2 1 0) (by decide) (by decide) true (by simp)
  obtain ⟨W1, hW1⟩ : ∃ W1, W1 = w.alloc (.cells #[.int .i64 2, .int .i64 1, .slice none 0 0, .slice none 0 0, .int .i64 0] 51) := ⟨_, rfl⟩
  have HB1 : Hid (Below w.heap.size w W1) := by show Below _ _ _; rw [hW1]; exact (Below.refl _ w).alloc (Nat.le_refl _) _
  have hx : W1.heap[w.heap.size]? = some (.cells #[.int .i64 2, .int .i64 1, .slice none 0 0, .slice none 0 0, .int .i64 0] 51) := by rw [hW1]; exact heap_alloc_new w _
  obtain ⟨X, hX⟩ : ∃ X, X = w.heap.size := ⟨_, rfl⟩
  rw [← hX] at hx
  have HXE : Hid (X = w.heap.size) := hX
  have HK : Hid (∀ W, Below W1.heap.size W1 W → W.cell? ⟨X, 0, none⟩ = some (.int .i64 2) ∧ W.cell? ⟨X, 1, none⟩ = some (.int .i64 1) ∧ W.cell? ⟨X, 2, none⟩ = some (.slice none 0 0) ∧ W.cell? ⟨X, 3, none⟩ = some (.slice none 0 0) ∧ W.cell? ⟨X, 4, none⟩ = some (.int .i64 0)) := by
    intro W hW
    have hb := (hW.block X (Array.getElem?_eq_some_iff.1 hx).1).trans hx
    exact ⟨cell_of_row W X 0 _ _ _ hb, cell_of_row W X 1 _ _ _ hb, cell_of_row W X 2 _ _ _ hb, cell_of_row W X 3 _ _ _ hb, cell_of_row W X 4 _ _ _ hb⟩
  obtain ⟨x0, x1, x2, x3, x4⟩ := HK.out W1 (Below.refl _ _)
  have HTK : Hid ((bytesN f0F).take 8 = [70, 67, 5, 2, 1, 0, 0, 0]) := take0
  clear hx hX
  go_enter Try.func24, Try.ntmps24
  go_upto_region 2 with fail
  simp only [← hW1, ← HXE.out]
  clear hW1
  go_upto_region 3 with (go_at_call 26; refine (HBY.out _).mono ?_; rintro e w2 ⟨a, c, rfl, hc, hr, hb⟩; have HC : Hid (12 ≤ c) := hc; have HR2 : Hid (Rd .u8 w2 a 12 (bytesN f0F)) := hr; have HB2 : Hid (Below W1.heap.size W1 w2) := hb; clear hc hr hb)
  clear x0 x1 x2 x3 x4
  go_upto_region 4 with (go_at_call 34; refine (HOF.out _ a c HC.out HR2.out).mono ?_; rintro e w3 ⟨va, vn, vc, oa, on, oc, rfl, hat, hb⟩; have HAT : Hid (FrAt w3 (frV 2 1 va vn vc oa on oc 0) f0F) := hat; have HB3 : Hid (Below w2.heap.size w2 w3) := hb; clear hat hb)
  obtain ⟨W4, hW4⟩ : ∃ W4, W4 = w3.alloc (.cells #[.int .i64 2, .int .i64 1, .slice va vn vc, .slice oa on oc, .int .i64 0] 51) := ⟨_, rfl⟩
  have HB4 : Hid (Below w3.heap.size w3 W4) := by show Below _ _ _; rw [hW4]; exact (Below.refl _ w3).alloc (Nat.le_refl _) _
  have hv : W4.heap[w3.heap.size]? = some (.cells #[.int .i64 2, .int .i64 1, .slice va vn vc, .slice oa on oc, .int .i64 0] 51) := by rw [hW4]; exact heap_alloc_new w3 _
  obtain ⟨V, hV⟩ : ∃ V, V = w3.heap.size := ⟨_, rfl⟩
  rw [← hV] at hv
  have HVE : Hid (V = w3.heap.size) := hV
  have HVB : Hid (W4.heap[V]? = some (.cells #[.int .i64 2, .int .i64 1, .slice va vn vc, .slice oa on oc, .int .i64 0] 51)) := hv
  simp only [← hW4, ← HVE.out]
  clear hW4 hV hv
  go_upto_region 5 with (go_at_call 34; refine (HON.out _).mono ?_; rintro e w5 ⟨rfl, hb⟩; have HB5 : Hid (Below W4.heap.size W4 w5) := hb; clear hb)
  obtain ⟨W5, hW5⟩ : ∃ W5, W5 = w5.alloc (.cells #[.int .i64 0, .int .i64 0, .slice none 0 0, .slice none 0 0, .int .i64 0] 51) := ⟨_, rfl⟩
  have HB55 : Hid (Below W4.heap.size W4 W5) := by show Below _ _ _; rw [hW5]; exact HB5.out.alloc HB5.out.size _
  simp only [← hW5]
  clear hW5
  go_upto_region 6 with (go_at_call 26; refine (HBZ.out _).mono ?_; rintro e w6 ⟨rfl, hb⟩; have HB6 : Hid (Below W4.heap.size W4 w6) := HB55.out.trans (hb.mono HB55.out.size); clear hb)
  have HB26 : Hid (Below w2.heap.size w2 w6) := HB3.out.trans ((HB4.out.trans (HB6.out.mono HB4.out.size)).mono HB3.out.size)
  go_upto_region 7 with (go_at_call 33; refine (HCU.out _ a c HC.out (HR2.out.later HB26.out)).mono ?_; rintro e w7 ⟨rfl, hb⟩; have HB7 : Hid (Below W4.heap.size W4 w7) := HB6.out.trans (hb.mono HB6.out.size); clear hb)
  have HB37 : Hid (Below w3.heap.size w3 w7) := HB4.out.trans (HB7.out.mono HB4.out.size)
  have HB27 : Hid (Below w2.heap.size w2 w7) := HB3.out.trans (HB37.out.mono HB3.out.size)
  have HB17 : Hid (Below W1.heap.size W1 w7) := HB2.out.trans (HB27.out.mono HB2.out.size)
  have hr8 := (HR2.out.later HB27.out).take 8 (by omega)
  rw [HTK.out] at hr8
  have hcv := conv_str (cap := c) hr8
  rw [str0] at hcv
  have hct := fun W => cut_bytes a 12 c 8 (by have := HC.out; omega) W
  have hct' : ∀ W, (Instr.slice 53 (.slice a 12 c) none (some (.int .i64 8)) none).run Try.prog W = .ok (.slice a 8 c) W := fun W => hct W
  obtain ⟨x0, x1, x2, x3, x4⟩ := HK.out w7 HB17.out
  have hv7 := (HB7.out.block V (Array.getElem?_eq_some_iff.1 HVB.out).1).trans HVB.out
  have v0 : w7.cell? ⟨V, 0, none⟩ = some (.int .i64 2) := cell_of_row _ V 0 _ _ _ hv7
  have v1 : w7.cell? ⟨V, 1, none⟩ = some (.int .i64 1) := cell_of_row _ V 1 _ _ _ hv7
  have v2 : w7.cell? ⟨V, 2, none⟩ = some (.slice va vn vc) := cell_of_row _ V 2 _ _ _ hv7
  have v3 : w7.cell? ⟨V, 3, none⟩ = some (.slice oa on oc) := cell_of_row _ V 3 _ _ _ hv7
  have v4 : w7.cell? ⟨V, 4, none⟩ = some (.int .i64 0) := cell_of_row _ V 4 _ _ _ hv7
  have hl8 : List.length [(70 : Int), 67, 5, 2, 1, 0, 0, 0] = 8 := rfl
  clear hr8 hct hv7 hl8
  go_wp2_with (first
    | (go_at_call 28
       refine (HSM.out _ va vn vc oa on oc (HAT.out.later HB37.out)).mono ?_
       rintro e w8 ⟨rfl, hb⟩
       have HB8 : Hid (Below w7.heap.size w7 w8) := hb
       obtain ⟨x0, x1, x2, x3, x4⟩ := HK.out w8 (HB17.out.trans (hb.mono HB17.out.size))
       clear hb)
    | (go_at_call 29; refine (HRT.out _).mono ?_; rintro e w9 ⟨rfl, hb⟩; have HB9 : Hid (Below w8.heap.size w8 w9) := hb; clear hb))
  go_ret
  exact ⟨rfl, HB1.out.trans ((HB17.out.trans ((HB8.out.trans (HB9.out.mono HB8.out.size)).mono HB17.out.size)).mono HB1.out.size)⟩
end Go.Proofs.Ytcbnmahbdcjamaa
