/- The walks of frame's sum and layOp. -/
import Derived.Test.YtcbnmahbdcjamaaFrA
namespace Go.Proofs.Ytcbnmahbdcjamaa
open Go.RowKit
set_option linter.unusedVariables false
set_option linter.unusedSimpArgs false

set_option maxHeartbeats 1000000 in
theorem fsum_any (xs : List Int) (a : Option Addr) (n cap : Nat) (w : World) (hb : Byt xs) (hr : Rd .u8 w a n xs) (hn : n ≤ 9223372036854775807) :
    Calls Try.prog 69 #[.slice a n cap] w fun e w' => ∃ g, w.heap.size ≤ g ∧ e = .returned (.slice (some ⟨g, 0, none⟩) 4 4) ∧ Below w.heap.size w w' ∧ Rd .u8 w' (some ⟨g, 0, none⟩) 4 (s4 (up 0 xs)) := by
  have HB : Hid (Byt xs) := hb
  have HR : Hid (Rd .u8 w a n xs) := hr
  have hu := up_lt 0 xs
  obtain ⟨S, hS⟩ : ∃ S, S = up 0 xs := ⟨_, rfl⟩
  rw [← hS] at hu
  have HS : Hid (up 0 xs = S) := hS.symm
  have k1 : (S : Int) / 2 ^ 24 % 256 = (S : Int) / 16777216 := by omega
  have k2 : (S : Int) / 2 ^ 16 % 256 = (S : Int) / 65536 % 256 := by omega
  have k3 : (S : Int) / 2 ^ 8 % 256 = (S : Int) / 256 % 256 := by omega
  rw [← hS]
  clear hb hr hS
  go_enter Try.func69, Try.ntmps69
  go_wp2_with fail
  refine (sum_any xs a n cap _ HB.out HR.out hn).mono ?_
  rw [HS.out]
  rintro e w1 ⟨rfl, hb1⟩
  have HB1 : Hid (Below w.heap.size w w1) := hb1
  clear hb1
  go_wp2
  go_ret
  exact ⟨w1.heap.size, HB1.out.size, rfl, HB1.out.alloc HB1.out.size _, rd_block _ (s4 S) _ _ rfl _ rfl 4 rfl⟩
theorem layQ_from {B len : Nat} {v : Value} {xs ns : List Int} {w0 w w' : World} {e : Ending} (hb : Below w0.heap.size w0 w) (h : LayQ B v len xs ns w e w') : LayQ B v len xs ns w0 e w' := by
  obtain ⟨v', rfl, h1, h2, h3⟩ := h
  refine ⟨v', rfl, h1, cg_trans (cg_below hb _) h2 (fun _ _ h => h), fun k hk => ?_⟩
  rcases h3 k hk with h | h
  · exact .inl h
  · exact .inr (Nat.le_trans hb.size h)
theorem layQ_next {B len : Nat} {v v1 : Value} {xs ns ms : List Int} {w w1 w2 : World} {e : Ending} (h : LayQ B v len xs ns w (.returned v1) w1) (h2 : LayQ B v1 (len + (pks ns).length) (xs ++ pks ns) ms w1 e w2) : LayQ B v len xs (ns ++ ms) w e w2 := by
  obtain ⟨u, hu, a1, a2, a3⟩ := h
  cases hu
  obtain ⟨v', rfl, b1, b2, b3⟩ := h2
  refine ⟨v', rfl, ?_, cg_lies a2 a3 b2, lies_trans a3 b3 a2.2.2.2.1⟩
  rw [pks_app, ← List.append_assoc]
  rw [show len + (pks ns ++ pks ms).length = len + (pks ns).length + (pks ms).length by simp; omega]
  exact b1
theorem layQ_own {B len : Nat} {v v1 : Value} {xs ns : List Int} {w w1 : World} (h : LayQ B v len xs ns w (.returned v1) w1) : w1.ownsRow B 5 1 v1 (len + (pks ns).length) ((xs ++ pks ns).map (Value.int .u8)) := by
  obtain ⟨u, hu, a1, a2, a3⟩ := h
  cases hu
  exact a1
theorem rd_ints (W : World) (ns : List Int) (cs : Array Value) (t : TypeId) (g : Nat) (hcs : cs.toList = ns.map (Value.int .i64)) (hg : W.heap[g]? = some (.cells cs t)) (n : Nat) (hn : ns.length = n) : Rd .i64 W (some ⟨g, 0, none⟩) n ns := by
  refine ⟨hn, fun _ => ⟨g, 0, rfl, fun i hi => ?_⟩⟩
  rw [Nat.zero_add, cell_of_row W g i _ _ _ hg]
  have h2 : i < ns.length := by omega
  rw [← Array.getElem?_toList, hcs]
  simp [h2]
theorem own_lt1 {w : World} {B n s : Nat} {e : TypeId} {v : Value} {xs : List Value} (h : w.ownsRow B e s v n xs) (k : Nat) (hk : v.ownBlock = some k) : k < w.heap.size := (h.lt k hk).2
/-- An operation that is right is of numbers that can be laid. -/
theorem opB_ok (o : Opn) (h : opB o = true) : okO o := by
  obtain ⟨c, a, s, ins, rc, ra, ch⟩ := o
  unfold opB idB rrB ruB at h
  simp only [Bool.and_eq_true] at h
  obtain ⟨⟨⟨⟨h1, h2⟩, h3⟩, h4⟩, h5⟩ := h
  have hc : ∀ n, cnB n = true → okI n := fun n hn => by unfold cnB at hn; simp at hn; exact ⟨by omega, by omega⟩
  have ha : ∀ n, auB n = true → okI n := fun n hn => by unfold auB belB at hn; simp at hn; exact ⟨by omega, by omega⟩
  have hr : okI rc ∧ okI ra := by
    by_cases hz : zrB rc ra = true
    · unfold zrB at hz; simp at hz; rw [hz.1, hz.2]; exact ⟨⟨by decide, by decide⟩, by decide, by decide⟩
    · rw [if_neg hz] at h4
      unfold idB at h4
      simp only [Bool.and_eq_true] at h4
      exact ⟨hc _ h4.1.1, ha _ h4.1.2⟩
  refine ⟨hc _ h1, ha _ h2, hc _ h3, hr.1, hr.2, ?_⟩
  cases ins
  · simp at h5 ⊢; exact h5
  · simp only [if_true] at h5 ⊢
    unfold chB at h5
    simp at h5
    omega
theorem okO_rng (o : Opn) (h : okO o) : ∀ y ∈ opN o, 0 ≤ y ∧ y ≤ 9223372036854775807 := by
  obtain ⟨c, a, s, ins, rc, ra, ch⟩ := o
  obtain ⟨⟨a1, a2⟩, ⟨b1, b2⟩, ⟨c1, c2⟩, ⟨d1, d2⟩, ⟨e1, e2⟩, f⟩ := h
  simp only at a1 a2 b1 b2 c1 c2 d1 d2 e1 e2 f
  intro y hy
  cases ins
  · simp [opN] at hy; omega
  · simp only [if_true] at f
    simp [opN] at hy; omega
/-- One number more, behind a row that lay left. -/
theorem layOne {B len : Nat} {v v1 : Value} {xs ns : List Int} {w w2 : World} (q : LayQ B v len xs ns w (.returned v1) w2) (hB : B ≤ w.heap.size) (y : Int) (hy : 0 ≤ y ∧ y ≤ 9223372036854775807) (hl : len ≤ 500000000) (hn : ns.length ≤ 10000) :
    Calls Try.prog 119 #[v1, .slice (some ⟨w2.heap.size, 0, none⟩) 1 1] (w2.alloc (.cells #[.int .i64 y] 3)) fun e w' => LayQ B v1 (len + (pks ns).length) (xs ++ pks ns) [y] w2 e w' := by
  obtain ⟨u, hu, q1, q2, q3⟩ := q
  cases hu
  have hb1 : Below w2.heap.size w2 (w2.alloc (.cells #[.int .i64 y] 3)) := (Below.refl _ w2).alloc (Nat.le_refl _) _
  have hm := pks_most ns
  refine (flay_any B v1 (len + (pks ns).length) (xs ++ pks ns) [y] (some ⟨w2.heap.size, 0, none⟩) 1 1 _ (own_later q1 hb1) (rd_ints _ _ _ _ _ rfl (heap_alloc_new w2 _) 1 rfl) ?_ ?_ (by omega) (by omega) (Nat.le_trans hB (Nat.le_trans q2.2.2.2.1 hb1.size))).mono fun e w' h => layQ_from hb1 h
  · intro b' off' h1 h2
    cases h1
    have := own_lt1 q1 _ h2
    omega
  · intro z hz
    simp at hz
    omega
set_option maxRecDepth 100000 in
set_option maxHeartbeats 2000000 in
theorem layOp_any (o : Opn) (B : Nat) (v : Value) (len : Nat) (xs : List Int) (w : World) (hown : w.ownsRow B 5 1 v len (xs.map (Value.int .u8))) (ho : okO o) (hlen : len ≤ 500000000) (hB : B ≤ w.heap.size) :
    Calls Try.prog 120 #[v, o.val] w fun e w' => LayQ B v len xs (opN o) w e w' := by
  have hrng := okO_rng o ho
  obtain ⟨c, a, s, ins, rc, ra, ch⟩ := o
  simp only [Opn.val] at hrng ⊢
  have HO : Hid (w.ownsRow B 5 1 v len (xs.map (Value.int .u8))) := hown
  obtain ⟨W1, hW1⟩ : ∃ W1, W1 = w.alloc (.cells #[.int .i64 c, .int .i64 a, .int .i64 s, .bool ins, .int .i64 rc, .int .i64 ra, .int .i32 ch] 34) := ⟨_, rfl⟩
  have HK : Hid (∀ W, Chg W1 W (fun k => v.ownBlock = some k) → W.cell? ⟨w.heap.size, 0, none⟩ = some (.int .i64 c) ∧ W.cell? ⟨w.heap.size, 1, none⟩ = some (.int .i64 a) ∧ W.cell? ⟨w.heap.size, 2, none⟩ = some (.int .i64 s) ∧ W.cell? ⟨w.heap.size, 3, none⟩ = some (.bool ins) ∧ W.cell? ⟨w.heap.size, 4, none⟩ = some (.int .i64 rc) ∧ W.cell? ⟨w.heap.size, 5, none⟩ = some (.int .i64 ra) ∧ W.cell? ⟨w.heap.size, 6, none⟩ = some (.int .i32 ch)) := by
    intro W hW
    have hb : W.heap[w.heap.size]? = some _ := cg_heap hW (by rw [hW1]; exact heap_alloc_new w _) (fun h => by have := own_lt1 hown _ h; omega)
    exact ⟨cell_of_row W w.heap.size 0 _ _ _ hb, cell_of_row W w.heap.size 1 _ _ _ hb, cell_of_row W w.heap.size 2 _ _ _ hb, cell_of_row W w.heap.size 3 _ _ _ hb, cell_of_row W w.heap.size 4 _ _ _ hb, cell_of_row W w.heap.size 5 _ _ _ hb, cell_of_row W w.heap.size 6 _ _ _ hb⟩
  have HB1 : Hid (Below w.heap.size w W1) := by rw [hW1]; exact (Below.refl _ w).alloc (Nat.le_refl _) _
  have hz1 : W1.heap.size = w.heap.size + 1 := by rw [hW1]; simp
  have HZ1 : Hid (W1.heap.size = w.heap.size + 1) := hz1
  obtain ⟨k0, k1, k2, k3, k4, k5, k6⟩ := HK.out W1 (cg_refl _ _)
  have HNO : Hid (∀ k, v.ownBlock = some k → k < w.heap.size) := own_lt1 hown
  obtain ⟨X, hX⟩ : ∃ X, X = w.heap.size := ⟨_, rfl⟩
  rw [← hX] at k0 k1 k2 k3 k4 k5 k6
  have HX : Hid (X = w.heap.size) := hX
  clear hown hX
  have first6 : ∀ b : Int, (b = if ins = true then 1 else 0) → Hid (Calls Try.prog 119 #[v, .slice (some ⟨W1.heap.size, 0, none⟩) 6 6] (W1.alloc (.cells #[.int .i64 c, .int .i64 a, .int .i64 s, .int .i64 b, .int .i64 rc, .int .i64 ra] 3)) fun e w' => LayQ B v len xs [c, a, s, b, rc, ra] W1 e w') := by
    intro b hb
    have hb1 : Below W1.heap.size W1 (W1.alloc (.cells #[.int .i64 c, .int .i64 a, .int .i64 s, .int .i64 b, .int .i64 rc, .int .i64 ra] 3)) := (Below.refl _ W1).alloc (Nat.le_refl _) _
    have hball := HB1.out.trans (hb1.mono HB1.out.size)
    refine (flay_any B v len xs [c, a, s, b, rc, ra] (some ⟨W1.heap.size, 0, none⟩) 6 6 _ (own_later HO.out hball) (rd_ints _ _ _ _ _ rfl (heap_alloc_new W1 _) 6 rfl) ?_ ?_ (by omega) (by omega) (Nat.le_trans hB hball.size)).mono fun e w' h => layQ_from hb1 h
    · intro b' off' h1 h2
      cases h1
      have := HNO.out _ h2
      have := HZ1.out
      omega
    · intro y hy
      refine hrng y ?_
      simp only [opN, ← hb]
      exact List.mem_append_left _ hy
  rw [← HX.out] at HK
  have HQ : Hid (∀ e w' ms, LayQ B v len xs ms W1 e w' → LayQ B v len xs ms w e w') := fun e w' ms h => layQ_from HB1.out h
  have HBS : Hid (B ≤ W1.heap.size) := Nat.le_trans hB HB1.out.size
  cases ins
  · have HC := first6 0 rfl
    clear first6 hrng ho HO HNO HZ1 hz1
    go_enter Try.func120, Try.ntmps120
    go_upto_region 1 with fail
    simp only [← hW1, ← HX.out]
    clear hW1
    go_wp2_with (go_at_call 119; refine HC.out.mono ?_; rintro e w2 ⟨v1, rfl, q1, q2, q3⟩; have HL1 : Hid (LayQ B v len xs [c, a, s, 0, rc, ra] W1 (.returned v1) w2) := ⟨v1, rfl, q1, q2, q3⟩; obtain ⟨j0, j1, j2, j3, j4, j5, j6⟩ := HK.out w2 q2; clear q1 q2 q3 j0 j1 j2 j4 j5 j6)
    go_ret
    exact HQ.out _ _ _ HL1.out
  · have HC0 := first6 1 rfl
    obtain ⟨NS, hNS⟩ : ∃ NS : List Int, NS = [c, a, s, 1, rc, ra] := ⟨_, rfl⟩
    have HNS : Hid (NS = [c, a, s, 1, rc, ra]) := hNS
    have HNL : Hid (NS.length ≤ 10000) := by rw [hNS]; show 6 ≤ 10000; decide
    rw [← hNS] at HC0
    have HC : Hid (Calls Try.prog 119 #[v, .slice (some ⟨W1.heap.size, 0, none⟩) 6 6] (W1.alloc (.cells #[.int .i64 c, .int .i64 a, .int .i64 s, .int .i64 1, .int .i64 rc, .int .i64 ra] 3)) fun e w' => LayQ B v len xs NS W1 e w') := HC0
    clear first6 HO HNO HZ1 hz1 HC0 hNS
    have hch : 0 ≤ ch ∧ ch ≤ 1114111 := by have := ho.2.2.2.2.2; simpa using this
    obtain ⟨ch0, ch1⟩ := hch
    clear hrng ho
    have hcv : IntKind.i64.wrap ch = ch := by rw [IntKind.wrap_i64]; omega
    go_enter Try.func120, Try.ntmps120
    go_upto_region 1 with fail
    simp only [← hW1, ← HX.out]
    clear hW1
    go_wp2_with (first
      | (go_at_call 119
         refine HC2.out.mono ?_
         rintro e w4 hq
         have HL2 : Hid (LayQ B v1 (len + (pks NS).length) (xs ++ pks NS) [ch] w2 e w4) := hq
         obtain ⟨v2, rfl, _⟩ := hq)
      | (go_at_call 119
         refine HC.out.mono ?_
         rintro e w2 ⟨v1, rfl, q1, q2, q3⟩
         have HL1 : Hid (LayQ B v len xs NS W1 (.returned v1) w2) := ⟨v1, rfl, q1, q2, q3⟩
         have HC2 : Hid (Calls Try.prog 119 #[v1, .slice (some ⟨w2.heap.size, 0, none⟩) 1 1] (w2.alloc (.cells #[.int .i64 ch] 3)) fun e w' => LayQ B v1 (len + (pks NS).length) (xs ++ pks NS) [ch] w2 e w') := layOne HL1.out HBS.out ch ⟨ch0, by omega⟩ (by omega) HNL.out
         obtain ⟨j0, j1, j2, j3, j4, j5, j6⟩ := HK.out w2 q2
         clear q1 q2 q3 j0 j1 j2 j4 j5))
    go_ret
    have hfin := HQ.out _ _ _ (layQ_next HL1.out HL2.out)
    rw [HNS.out] at hfin
    exact hfin
end Go.Proofs.Ytcbnmahbdcjamaa
