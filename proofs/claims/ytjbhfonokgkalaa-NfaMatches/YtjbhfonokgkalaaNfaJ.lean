/- The walks of set, fits and shown: what must be in any case; Matches by what the expression fits. -/
import Derived.Test.YtjbhfonokgkalaaNfaI
namespace Go.Proofs.Ytjbhfonokgkalaa
open Go.RowKit
set_option linter.unusedVariables false
set_option linter.unusedSimpArgs false

/-- The machine of an expression. -/
def NMach (B : Nat) (w : World) (bm : Nat) (n : Nd) : Prop := n.ok = true ∧ Mach B w bm (n.piece []).1 (n.piece []).2.1 (n.piece []).2.2
theorem NMach.later {B : Nat} {w w' : World} {bm : Nat} {n : Nd} (h : NMach B w bm n) (hb : Below w.heap.size w w') : NMach B w' bm n := ⟨h.1, h.2.later hb⟩
theorem NMach.of {n : Nd} {B : Nat} {w : World} {bm : Nat} (hok : n.ok = true) (h : MAt B w.heap.size w bm (n.piece []).1 (n.piece []).2.1 (n.piece []).2.2) : NMach B w bm n := ⟨hok, new_mach hok h⟩
theorem accS_fits (n : Nd) (h : n.ok = true) (xs : List Int) : AccS (n.piece []).1 (n.piece []).2.2 [(n.piece []).2.1] xs ↔ n.fits xs := by
  rw [← piece_fits n (Nd.ok_right h).1]
  unfold AccS
  simp
theorem matchN_any (B : Nat) (w : World) (bm : Nat) (n : Nd) (xs : List Int) (a : Option Addr) (len cap : Nat) (hm : NMach B w bm n) (hrd : Rd .i64 w a len xs) (hl : len ≤ 1000000) : Calls Try.prog 32 #[.pointer (some ⟨bm, 0, none⟩), .slice a len cap] w fun e w' => ∃ b : Bool, e = .returned (.bool b) ∧ (b = true ↔ n.fits xs) ∧ Below w.heap.size w w' := by
  refine (matches_any B w bm _ _ _ xs a len cap hm.2 hrd hl).mono ?_
  rintro e w' ⟨b, he, hb, hw⟩
  exact ⟨b, he, hb.trans (accS_fits n hm.1 xs), hw⟩
/-- A call of Matches whose answer is known. -/
theorem matchT_any (B : Nat) (w : World) (bm : Nat) (n : Nd) (xs : List Int) (a : Option Addr) (len cap : Nat) (hm : NMach B w bm n) (hrd : Rd .i64 w a len xs) (hl : len ≤ 1000000) (b : Bool) (hb : b = true ↔ n.fits xs) : Calls Try.prog 32 #[.pointer (some ⟨bm, 0, none⟩), .slice a len cap] w fun e w' => e = .returned (.bool b) ∧ Below w.heap.size w w' := by
  refine (matchN_any B w bm n xs a len cap hm hrd hl).mono ?_
  rintro e w' ⟨b', rfl, hb', hw⟩
  refine ⟨?_, hw⟩
  have : b' = b := by rw [Bool.eq_iff_iff, hb', hb]
  rw [this]
/-- An expression whose parts lie in a row. -/
theorem InV.node {B : Nat} {w : World} {d : Nat} (op : Int) (ns : List Nd) (b c : Nat) {cs : Array Value} {fr : Nat × Nat} {t : TypeId} (hb : w.heap[b]? = some (.cells cs t fr)) (hn : ns.length ≤ 2600000000000) (h : ∀ i (hi : i < ns.length), ∃ us, InV B w d ns[i] us ∧ ∀ j v, us[j]? = some v → cs[i * 3 + j]? = some v) :
    InV B w (d + 1) ⟨op, [], ofL ns⟩ [.int .i64 op, .slice none 0 0, .slice (some ⟨b, 0, none⟩) ns.length c] := by
  refine ⟨none, 0, some ⟨b, 0, none⟩, c, ?_, rd_nil _ _, fun h => by simp at h, ⟨by simp, fun _ => rfl⟩, ?_, fun hp => ⟨b, 0, rfl, fun i hi => ?_⟩⟩
  · show [Value.int .i64 op, .slice none 0 0, .slice (some ⟨b, 0, none⟩) ns.length c] = [Value.int .i64 op, .slice none 0 0, .slice (some ⟨b, 0, none⟩) (toL (ofL ns)).length c]
    rw [toL_ofL]
  · show (toL (ofL ns)).length ≤ _
    rw [toL_ofL]; exact hn
  · have hi' : i < ns.length := by
      have h2 : i < (toL (ofL ns)).length := hi
      rwa [toL_ofL] at h2
    obtain ⟨us, h1, h2⟩ := h i hi'
    have e : (toL (ofL ns))[i]'hi = ns[i] := by simp only [toL_ofL]
    refine ⟨us, ?_, fun j v hv => ?_⟩
    · show InV B w d ((toL (ofL ns))[i]'hi) us
      rw [e]; exact h1
    · rw [cell_of_row w b _ _ _ _ hb, Nat.zero_add]
      exact h2 j v hv
theorem new_at2 (w : World) (o1 o2 : Obj) : ((w.alloc o1).alloc o2).heap[w.heap.size + 1]? = some o2 := by
  have := heap_alloc_new (w.alloc o1) o2
  rw [show (w.alloc o1).heap.size = w.heap.size + 1 by simp] at this
  exact this
/-- An expression of one class. -/
def setNd (c : Int) : Nd := ⟨1, [c], .nil⟩
set_option maxHeartbeats 2000000 in
theorem set_any (c : Int) (w : World) : Calls Try.prog 46 #[.int .i64 c] w fun e w' => ∃ g, e = .returned (.agg #[.int .i64 1, .slice (some ⟨g, 0, none⟩) 1 1, .slice none 0 0]) ∧ InV w'.heap.size w' 1 (setNd c) [.int .i64 1, .slice (some ⟨g, 0, none⟩) 1 1, .slice none 0 0] ∧ Below w.heap.size w w' := by
  obtain ⟨W, hW⟩ : ∃ W : World, W = (w.alloc (.cells #[.int .i64 1, .slice (some ⟨w.heap.size + 1, 0, none⟩) 1 1, .slice none 0 0] 33)).alloc (.cells #[.int .i64 c] 3) := ⟨_, rfl⟩
  have HB : Hid (Below w.heap.size w W) := by rw [hW]; exact ((Below.refl _ w).alloc (Nat.le_refl _) _).alloc (by simp) _
  have HF : Hid (∃ g, Ending.returned (.agg #[.int .i64 1, .slice (some ⟨w.heap.size + 1, 0, none⟩) 1 1, .slice none 0 0]) = .returned (.agg #[.int .i64 1, .slice (some ⟨g, 0, none⟩) 1 1, .slice none 0 0]) ∧ InV W.heap.size W 1 (setNd c) [.int .i64 1, .slice (some ⟨g, 0, none⟩) 1 1, .slice none 0 0] ∧ Below w.heap.size w W) := by
    refine ⟨w.heap.size + 1, rfl, ?_, HB.out⟩
    refine InV.leaf W 0 1 [c] (some ⟨w.heap.size + 1, 0, none⟩) 1 ⟨rfl, fun _ => ⟨w.heap.size + 1, 0, rfl, fun i hi => ?_⟩⟩ (by simp) (fun h => by cases h)
    have h1 : W.heap[w.heap.size + 1]? = some (.cells #[.int .i64 c] 3) := by rw [hW]; exact new_at2 w _ _
    have hi0 : i = 0 := by simp at hi; exact hi
    subst hi0
    exact cell_of_row W _ 0 _ _ _ h1
  go_enter Try.func46, Try.ntmps46
  go_wp2
  rw [← hW]
  refine bodyPost_ret (v := .agg #[.int .i64 1, .slice (some ⟨w.heap.size + 1, 0, none⟩) 1 1, .slice none 0 0]) ?_ rfl HF.out
  rw [results_cell_one rfl, hW]
  go_simp
/-- What is looked at first. -/
def shN : Nd := ⟨2, [], ofL [setNd 1, ⟨4, [], ofL [setNd 2]⟩]⟩
def shS : Nd := ⟨4, [], .nil⟩
theorem shN_ok : shN.ok = true := by decide
theorem shS_ok : shS.ok = false := by decide
theorem shN_fits (w : List Int) : shN.fits w ↔ ∃ i, powL (fun u => u = [2]) i (w.drop 1) ∧ w.take 1 = [1] := by
  have h : ∀ u, (setNd 2).fits u ↔ u = [2] := fun u => by simp [setNd, Nd.fits, nodeL]
  have hp : ∀ i u, powL (nodeL 1 [2] (fitF .nil)) i u ↔ powL (fun u => u = [2]) i u := by
    intro i
    induction i with
    | zero => intro u; exact Iff.rfl
    | succ i ih =>
      intro u
      simp only [powL, ih]
      constructor
      · rintro ⟨a, b, h1, h2, h3⟩
        exact ⟨a, b, h1, (h a).1 h2, h3⟩
      · rintro ⟨a, b, h1, h2, h3⟩
        exact ⟨a, b, h1, (h a).2 h2, h3⟩
  show seqL [nodeL 1 [1] (fitF .nil), nodeL 4 [] [nodeL 1 [2] (fitF .nil)]] w ↔ _
  simp only [seqL]
  constructor
  · rintro ⟨u, v, rfl, h1, u', v', rfl, h2, rfl⟩
    have hu : u = [1] := by simpa [nodeL] using h1
    subst hu
    simp only [nodeL] at h2
    obtain ⟨i, hi⟩ := h2
    exact ⟨i, by simpa using (hp i u').1 hi, by simp⟩
  · rintro ⟨i, h1, h2⟩
    refine ⟨[1], w.drop 1, ?_, by simp [nodeL], w.drop 1, [], by simp, ⟨i, (hp i _).2 h1⟩, rfl⟩
    rw [← h2, List.take_append_drop]
theorem sh1 : true = true ↔ shN.fits [1] := ⟨fun _ => (shN_fits _).2 ⟨0, rfl, rfl⟩, fun _ => rfl⟩
theorem sh2 : true = true ↔ shN.fits [1, 2, 2] := ⟨fun _ => (shN_fits _).2 ⟨2, ⟨[2], [2], rfl, rfl, [2], [], rfl, rfl, rfl⟩, rfl⟩, fun _ => rfl⟩
theorem sh3 : false = true ↔ shN.fits [2] := ⟨fun h => (by cases h), fun h => by obtain ⟨_, _, h2⟩ := (shN_fits _).1 h; simp at h2⟩
theorem sh4 : false = true ↔ shN.fits [] := ⟨fun h => (by cases h), fun h => by obtain ⟨_, _, h2⟩ := (shN_fits _).1 h; simp at h2⟩
set_option maxHeartbeats 4000000 in
theorem shown_any (w : World) : Calls Try.prog 20 #[] w fun e w' => e = .returned (.bool true) ∧ Below w.heap.size w w' := by
  go_enter Try.func20, Try.ntmps20
  go_wp2_with fail
  refine (set_any 1 w).mono ?_
  rintro e w1 ⟨g1, rfl, hi1, hb1⟩
  have HI1 : Hid (InV w1.heap.size w1 1 (setNd 1) [.int .i64 1, .slice (some ⟨g1, 0, none⟩) 1 1, .slice none 0 0]) := hi1
  have HB1 : Hid (Below w.heap.size w w1) := hb1
  clear hi1 hb1
  go_wp2_with fail
  refine (set_any 2 w1).mono ?_
  rintro e w2 ⟨g2, rfl, hi2, hb2⟩
  obtain ⟨W, hW⟩ : ∃ W : World, W = ((w2.alloc (.cells #[.int .i64 1, .slice (some ⟨g2, 0, none⟩) 1 1, .slice none 0 0] 33)).alloc (.cells #[.int .i64 1, .slice (some ⟨g1, 0, none⟩) 1 1, .slice none 0 0, .int .i64 4, .slice none 0 0, .slice (some ⟨w2.heap.size, 0, none⟩) 1 1] 33)).alloc (.cells #[.int .i64 2, .slice none 0 0, .slice (some ⟨w2.heap.size + 1, 0, none⟩) 2 2] 33) := ⟨_, rfl⟩
  have HBW : Hid (Below w2.heap.size w2 W) := by rw [hW]; exact (((Below.refl _ w2).alloc (Nat.le_refl _) _).alloc (by simp) _).alloc (by simp; omega) _
  have HB2 : Hid (Below w.heap.size w W) := HB1.out.trans ((hb2.trans (HBW.out.mono hb2.size)).mono HB1.out.size)
  have hb1W : Below w1.heap.size w1 W := hb2.trans (HBW.out.mono hb2.size)
  have k0 : W.heap[w2.heap.size]? = some (.cells #[.int .i64 1, .slice (some ⟨g2, 0, none⟩) 1 1, .slice none 0 0] 33) := by
    rw [hW]
    exact (((Below.refl _ (w2.alloc (.cells #[.int .i64 1, .slice (some ⟨g2, 0, none⟩) 1 1, .slice none 0 0] 33))).alloc (Nat.le_refl _) _).alloc (by simp) _).block w2.heap.size (by simp) |>.trans (heap_alloc_new w2 _)
  have k1 : W.heap[w2.heap.size + 1]? = some (.cells #[.int .i64 1, .slice (some ⟨g1, 0, none⟩) 1 1, .slice none 0 0, .int .i64 4, .slice none 0 0, .slice (some ⟨w2.heap.size, 0, none⟩) 1 1] 33) := by
    rw [hW]
    exact ((Below.refl _ ((w2.alloc (.cells #[.int .i64 1, .slice (some ⟨g2, 0, none⟩) 1 1, .slice none 0 0] 33)).alloc (.cells #[.int .i64 1, .slice (some ⟨g1, 0, none⟩) 1 1, .slice none 0 0, .int .i64 4, .slice none 0 0, .slice (some ⟨w2.heap.size, 0, none⟩) 1 1] 33))).alloc (Nat.le_refl _) _).block (w2.heap.size + 1) (by simp) |>.trans (new_at2 w2 _ _)
  have i1 : InV W.heap.size W 1 (setNd 1) [.int .i64 1, .slice (some ⟨g1, 0, none⟩) 1 1, .slice none 0 0] := (HI1.out.later hb1W 1).base hb1W.size 1
  have i2 : InV W.heap.size W 1 (setNd 2) [.int .i64 1, .slice (some ⟨g2, 0, none⟩) 1 1, .slice none 0 0] := (hi2.later HBW.out 1).base HBW.out.size 1
  have i3 : InV W.heap.size W 2 ⟨4, [], ofL [setNd 2]⟩ [.int .i64 4, .slice none 0 0, .slice (some ⟨w2.heap.size, 0, none⟩) 1 1] := InV.node (w := W) 4 [setNd 2] w2.heap.size 1 k0 (by simp) (fun i hi => by
    have h0 : i = 0 := by simp at hi; exact hi
    subst h0
    exact ⟨_, i2, fun j v hv => by
      match j, hv with
      | 0, hv => exact hv
      | 1, hv => exact hv
      | 2, hv => exact hv
      | (k + 3), hv => simp at hv⟩)
  have i4 : InV W.heap.size W 3 shN [.int .i64 2, .slice none 0 0, .slice (some ⟨w2.heap.size + 1, 0, none⟩) 2 2] := InV.node (w := W) 2 [setNd 1, ⟨4, [], ofL [setNd 2]⟩] (w2.heap.size + 1) 2 k1 (by simp) (fun i hi => by
    match i, hi with
    | 0, _ =>
      exact ⟨_, i1.deep 1, fun j v hv => by
        match j, hv with
        | 0, hv => exact hv
        | 1, hv => exact hv
        | 2, hv => exact hv
        | (k + 3), hv => simp at hv⟩
    | 1, _ =>
      exact ⟨_, i3, fun j v hv => by
        match j, hv with
        | 0, hv => exact hv
        | 1, hv => exact hv
        | 2, hv => exact hv
        | (k + 3), hv => simp at hv⟩)
  have HC : Hid (Calls Try.prog 24 #[.agg #[.int .i64 2, .slice none 0 0, .slice (some ⟨w2.heap.size + 1, 0, none⟩) 2 2]] W fun e w' => ∃ bm, e = .returned (.tuple #[.pointer (some ⟨bm, 0, none⟩), .int .i64 0]) ∧ NMach W.heap.size w' bm shN ∧ Below W.heap.size W w') := by
    refine (new_any 3 shN none (some ⟨w2.heap.size + 1, 0, none⟩) 0 2 W i4).mono ?_
    rintro e w' ⟨hb, ⟨_, bm, he, hm⟩ | ⟨h, _⟩⟩
    · exact ⟨bm, he, NMach.of shN_ok hm, hb⟩
    · rw [shN_ok] at h; cases h
  clear hi2 hb2 hb1W k0 k1 i1 i2 i3 i4 HI1
  go_wp2_with fail
  rw [← hW]
  clear hW
  refine HC.out.mono ?_
  rintro e w3 ⟨bm, rfl, hm3, hb3⟩
  have HM3 : Hid (NMach W.heap.size w3 bm shN) := hm3
  have HB3 : Hid (Below w.heap.size w w3) := HB2.out.trans (hb3.mono HB2.out.size)
  clear hm3 hb3 HC
  have HC2 : Hid (Calls Try.prog 24 #[.agg #[.int .i64 4, .slice none 0 0, .slice none 0 0]] w3 fun e w' => e = .returned (.tuple #[.pointer none, .int .i64 1]) ∧ Below w3.heap.size w3 w') := by
    refine (new_any 1 shS none none 0 0 w3 (InV.leaf w3 0 4 [] none 0 (rd_nil _ _) (by simp) (fun _ => rfl))).mono ?_
    rintro e w' ⟨hb, ⟨h, _⟩ | ⟨_, he⟩⟩
    · rw [shS_ok] at h; cases h
    · exact ⟨he, hb⟩
  go_wp2_with fail
  refine HC2.out.mono ?_
  rintro e w4 ⟨rfl, hb4⟩
  have HM4 : Hid (NMach W.heap.size w4 bm shN) := HM3.out.later hb4
  have HB4 : Hid (Below w.heap.size w w4) := HB3.out.trans (hb4.mono HB3.out.size)
  clear hb4 HC2
  go_wp2_with fail
  refine (matchT_any W.heap.size _ bm shN [1] (some ⟨w4.heap.size, 0, none⟩) 1 1 (HM4.out.later ((Below.refl _ w4).alloc (Nat.le_refl _) _)) (rd_one .i64 w4 1 3 w4.heap.size rfl) (by omega) true sh1).mono ?_
  rintro e w5 ⟨rfl, hb5⟩
  have hz5 : Below w4.heap.size w4 w5 := ((Below.refl _ w4).alloc (Nat.le_refl _) _).trans (hb5.mono (by simp))
  have HM5 : Hid (NMach W.heap.size w5 bm shN) := HM4.out.later hz5
  have HB5 : Hid (Below w.heap.size w w5) := HB4.out.trans (hz5.mono HB4.out.size)
  clear hb5 hz5
  go_wp2_with fail
  refine (matchT_any W.heap.size _ bm shN [1, 2, 2] (some ⟨w5.heap.size, 0, none⟩) 3 3 (HM5.out.later ((Below.refl _ w5).alloc (Nat.le_refl _) _)) ⟨rfl, fun _ => ⟨w5.heap.size, 0, rfl, fun i hi => by
    rw [cell_of_row _ w5.heap.size (0 + i) _ _ _ (heap_alloc_new w5 _)]
    rcases (by omega : i = 0 ∨ i = 1 ∨ i = 2) with rfl | rfl | rfl <;> rfl⟩⟩ (by omega) true sh2).mono ?_
  rintro e w6 ⟨rfl, hb6⟩
  have hz6 : Below w5.heap.size w5 w6 := ((Below.refl _ w5).alloc (Nat.le_refl _) _).trans (hb6.mono (by simp))
  have HM6 : Hid (NMach W.heap.size w6 bm shN) := HM5.out.later hz6
  have HB6 : Hid (Below w.heap.size w w6) := HB5.out.trans (hz6.mono HB5.out.size)
  clear hb6 hz6
  go_wp2_with fail
  refine (matchT_any W.heap.size _ bm shN [2] (some ⟨w6.heap.size, 0, none⟩) 1 1 (HM6.out.later ((Below.refl _ w6).alloc (Nat.le_refl _) _)) (rd_one .i64 w6 2 3 w6.heap.size rfl) (by omega) false sh3).mono ?_
  rintro e w7 ⟨rfl, hb7⟩
  have hz7 : Below w6.heap.size w6 w7 := ((Below.refl _ w6).alloc (Nat.le_refl _) _).trans (hb7.mono (by simp))
  have HM7 : Hid (NMach W.heap.size w7 bm shN) := HM6.out.later hz7
  have HB7 : Hid (Below w.heap.size w w7) := HB6.out.trans (hz7.mono HB6.out.size)
  clear hb7 hz7
  go_wp2_with fail
  refine (matchT_any W.heap.size _ bm shN [] none 0 0 HM7.out (rd_nil _ _) (by omega) false sh4).mono ?_
  rintro e w8 ⟨rfl, hb8⟩
  have HB8 : Hid (Below w.heap.size w w8) := HB7.out.trans (hb8.mono HB7.out.size)
  clear hb8
  go_wp2
  go_ret
  exact ⟨rfl, HB8.out⟩
end Go.Proofs.Ytjbhfonokgkalaa
