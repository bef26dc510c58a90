/- A frame in memory; the walks of frame's layFrame and Bytes. -/
import Derived.Test.YtcbnmahbdcjamaaFrB
namespace Go.Proofs.Ytcbnmahbdcjamaa
open Go.RowKit
set_option linter.unusedVariables false
set_option linter.unusedSimpArgs false

/-- More numbers, behind a row that lay left. -/
theorem layMore {B len : Nat} {v v1 : Value} {xs ns : List Int} {w w2 V : World} (q : LayQ B v len xs ns w (.returned v1) w2) (hB : B ≤ w.heap.size) (hV : Below w2.heap.size w2 V) (ms : List Int) (g n : Nat) (cs : Array Value) (t : TypeId) (hg : V.heap[g]? = some (.cells cs t)) (hgs : w2.heap.size ≤ g) (hcs : cs.toList = ms.map (Value.int .i64)) (hm : ms.length = n)
    (hy : ∀ y ∈ ms, 0 ≤ y ∧ y ≤ 9223372036854775807) (hl : len ≤ 500000000) (hn : ns.length ≤ 10000000) (hn2 : n ≤ 100) :
    Calls Try.prog 119 #[v1, .slice (some ⟨g, 0, none⟩) n n] V fun e w' => LayQ B v len xs (ns ++ ms) w e w' := by
  have q0 := q
  obtain ⟨u, hu, q1, q2, q3⟩ := q
  cases hu
  have hp := pks_most ns
  refine (flay_any B v1 (len + (pks ns).length) (xs ++ pks ns) ms (some ⟨g, 0, none⟩) n n _ (own_later q1 hV) (rd_ints _ _ _ _ _ hcs hg n hm) ?_ hy (by omega) (by omega) (Nat.le_trans hB (Nat.le_trans q2.2.2.2.1 hV.size))).mono fun e w' h => layQ_next q0 (layQ_from hV h)
  intro b' off' h1 h2
  cases h1
  have := own_lt1 q1 _ h2
  omega
theorem opMore {B len : Nat} {v v1 : Value} {xs ns : List Int} {w w2 V : World} (q : LayQ B v len xs ns w (.returned v1) w2) (hB : B ≤ w.heap.size) (hV : Below w2.heap.size w2 V) (o : Opn) (ho : okO o) (hl : len ≤ 100000000) (hn : ns.length ≤ 10000000) :
    Calls Try.prog 120 #[v1, o.val] V fun e w' => LayQ B v len xs (ns ++ opN o) w e w' := by
  have q0 := q
  obtain ⟨u, hu, q1, q2, q3⟩ := q
  cases hu
  have hp := pks_most ns
  exact (layOp_any o B v1 (len + (pks ns).length) (xs ++ pks ns) _ (own_later q1 hV) ho (by omega) (Nat.le_trans hB (Nat.le_trans q2.2.2.2.1 hV.size))).mono fun e w' h => layQ_next q0 (layQ_from hV h)
theorem layQ_bel {B len : Nat} {n c : Nat} {v1 : Value} {xs ns : List Int} {w w2 : World} (q : LayQ B (.slice none n c) len xs ns w (.returned v1) w2) : Below w.heap.size w w2 := by
  obtain ⟨u, hu, q1, q2, q3⟩ := q
  exact cg_bel q2 (Nat.le_refl _) (fun k hk => by cases hk)

/-- A frame in memory. -/
def FrAt (w : World) (v : Value) (f : Frm) : Prop :=
  ∃ (va : Option Addr) (vn vc : Nat) (oa : Option Addr) (on oc : Nat), v = .agg #[.int .i64 f.kind, .int .i64 f.fr, .slice va vn vc, .slice oa on oc, .int .i64 f.next] ∧ RdE w va vn f.vec ∧ RdP w oa on f.ops
theorem FrAt.later {w w' : World} {v : Value} {f : Frm} (h : FrAt w v f) (hb : Below w.heap.size w w') : FrAt w' v f := by
  obtain ⟨va, vn, vc, oa, on, oc, e, h1, h2⟩ := h
  exact ⟨va, vn, vc, oa, on, oc, e, h1.later hb, h2.later hb⟩
/-- All its numbers can be laid. -/
theorem okF_rng (f : Frm) (h : okF f) : ∀ y ∈ numN f, 0 ≤ y ∧ y ≤ 9223372036854775807 := by
  obtain ⟨⟨a1, a2⟩, ⟨b1, b2⟩, c, d, e, g, ⟨i1, i2⟩⟩ := h
  intro y hy
  simp only [numN, List.mem_append, List.mem_cons, List.not_mem_nil, or_false, List.mem_flatMap] at hy
  rcases hy with (rfl | rfl | rfl) | ⟨p, hp, hy⟩ | rfl | ⟨o, ho, hy⟩ | rfl
  · omega
  · omega
  · omega
  · obtain ⟨⟨p1, p2⟩, q1, q2⟩ := d p hp
    simp only [enN, List.mem_cons, List.not_mem_nil, or_false] at hy
    rcases hy with rfl | rfl <;> omega
  · omega
  · exact okO_rng o (g o ho) y hy
  · omega
theorem flat_next {α : Type} (enc : α → List Int) (l : List α) (d : α) (k : Nat) (h : k < l.length) : (l.take (k + 1)).flatMap enc = (l.take k).flatMap enc ++ enc (l.getD k d) := by
  rw [List.take_add_one, List.flatMap_append, List.getElem?_eq_getElem h]
  simp [h]
theorem flat_len {α : Type} (enc : α → List Int) (m : Nat) (hm : ∀ x, (enc x).length ≤ m) : (l : List α) → (l.flatMap enc).length ≤ m * l.length
  | [] => by simp
  | x :: r => by
    have h1 := flat_len enc m hm r
    have h2 := hm x
    rw [List.flatMap_cons, List.length_append, List.length_cons, Nat.mul_succ]
    omega
theorem opN_len (o : Opn) : (opN o).length ≤ 7 := by
  unfold opN
  cases o.ins <;> simp
/-- The numbers laid ahead of the k-th entry, and of the k-th operation. -/
def num1 (f : Frm) (k : Nat) : List Int := [f.kind, f.fr, ((f.vec.length : Nat) : Int)] ++ (f.vec.take k).flatMap enN
def num2 (f : Frm) (k : Nat) : List Int := num1 f f.vec.length ++ [((f.ops.length : Nat) : Int)] ++ (f.ops.take k).flatMap opN
theorem num1_next (f : Frm) (k : Nat) (h : k < f.vec.length) : num1 f (k + 1) = num1 f k ++ enN (f.vec.getD k (0, 0)) := by
  rw [num1, flat_next enN f.vec (0, 0) k h, num1, List.append_assoc]
theorem num2_next (f : Frm) (k : Nat) (h : k < f.ops.length) : num2 f (k + 1) = num2 f k ++ opN (f.ops.getD k op0) := by
  rw [num2, flat_next opN f.ops op0 k h, num2]
  simp only [List.append_assoc]
theorem num_all (f : Frm) : num2 f f.ops.length ++ [f.next] = numN f := by
  rw [num2, num1, List.take_length, List.take_length, numN]
  simp
theorem num1_len (f : Frm) (k : Nat) : (num1 f k).length ≤ 3 + 2 * f.vec.length := by
  have h := flat_len enN 2 (fun x => Nat.le_refl 2) (f.vec.take k)
  rw [List.length_take] at h
  rw [num1, List.length_append]
  simp only [List.length_cons, List.length_nil]
  omega
theorem num2_len (f : Frm) (k : Nat) : (num2 f k).length ≤ 4 + 2 * f.vec.length + 7 * f.ops.length := by
  have h := flat_len opN 7 opN_len (f.ops.take k)
  have h2 := num1_len f f.vec.length
  rw [List.length_take] at h
  rw [num2, List.length_append, List.length_append]
  simp only [List.length_cons, List.length_nil]
  omega
set_option maxRecDepth 100000 in
set_option maxHeartbeats 4000000 in
theorem layFrame_any (f : Frm) (v : Value) (w : World) (hat : FrAt w v f) (hok : okF f) (h1 : f.vec.length ≤ 100000) (h2 : f.ops.length ≤ 100000) :
    Calls Try.prog 68 #[v] w fun e w' => ∃ v', e = .returned v' ∧ w'.ownsRow w.heap.size 5 1 v' (bodyN f).length ((bodyN f).map (Value.int .u8)) ∧ Below w.heap.size w w' := by
  obtain ⟨va, vn, vc, oa, on, oc, rfl, hre, hrp⟩ := hat
  have hvn := hre.1
  have hon := hrp.1
  have HRE : Hid (∀ W, Below w.heap.size w W → RdE W va vn f.vec) := fun W h => hre.later h
  have HRP : Hid (∀ W, Below w.heap.size w W → RdP W oa on f.ops) := fun W h => hrp.later h
  obtain ⟨W1, hW1⟩ : ∃ W1, W1 = w.alloc (.cells #[.int .i64 f.kind, .int .i64 f.fr, .slice va vn vc, .slice oa on oc, .int .i64 f.next] 51) := ⟨_, rfl⟩
  have hb1 : Below w.heap.size w W1 := by rw [hW1]; exact (Below.refl _ w).alloc (Nat.le_refl _) _
  have hbx : W1.heap[w.heap.size]? = some (.cells #[.int .i64 f.kind, .int .i64 f.fr, .slice va vn vc, .slice oa on oc, .int .i64 f.next] 51) := by rw [hW1]; exact heap_alloc_new w _
  have HK : Hid (∀ W, Below W1.heap.size W1 W → W.cell? ⟨w.heap.size, 0, none⟩ = some (.int .i64 f.kind) ∧ W.cell? ⟨w.heap.size, 1, none⟩ = some (.int .i64 f.fr) ∧ W.cell? ⟨w.heap.size, 2, none⟩ = some (.slice va vn vc) ∧ W.cell? ⟨w.heap.size, 3, none⟩ = some (.slice oa on oc) ∧ W.cell? ⟨w.heap.size, 4, none⟩ = some (.int .i64 f.next)) := by
    intro W hW
    have hb := (hW.block w.heap.size (by rw [hW1]; simp)).trans hbx
    exact ⟨cell_of_row W _ 0 _ _ _ hb, cell_of_row W _ 1 _ _ _ hb, cell_of_row W _ 2 _ _ _ hb, cell_of_row W _ 3 _ _ _ hb, cell_of_row W _ 4 _ _ _ hb⟩
  have HRNG : Hid (∀ y ∈ numN f, 0 ≤ y ∧ y ≤ 9223372036854775807) := okF_rng f hok
  have HOK : Hid (okF f) := hok
  have HB1 : Hid (Below w.heap.size w W1) := hb1
  -- the state behind some numbers
  have HS0 : Hid (LayQ W1.heap.size (.slice none 0 0) 0 [] [] W1 (.returned (.slice none 0 0)) W1) := ⟨_, rfl, World.ownsRow_nil _ _ _ _, cg_refl _ _, lies_refl _ _⟩
  have HLAY : Hid (∀ (v1 : Value) (w2 V : World) (ns ms : List Int) (g n : Nat) (cs : Array Value), LayQ W1.heap.size (.slice none 0 0) 0 [] ns W1 (.returned v1) w2 → Below w2.heap.size w2 V → V.heap[g]? = some (.cells cs 3) → w2.heap.size ≤ g → cs.toList = ms.map (Value.int .i64) → ms.length = n → (∀ y ∈ ms, 0 ≤ y ∧ y ≤ 9223372036854775807) → ns.length ≤ 10000000 → n ≤ 100 →
      Calls Try.prog 119 #[v1, .slice (some ⟨g, 0, none⟩) n n] V fun e w' => LayQ W1.heap.size (.slice none 0 0) 0 [] (ns ++ ms) W1 e w') := fun v1 w2 V ns ms g n cs q hV hg hgs hcs hm hy hn hn2 =>
    layMore q (Nat.le_refl _) hV ms g n cs _ hg hgs hcs hm hy (by omega) hn hn2
  have HOP : Hid (∀ (v1 : Value) (w2 V : World) (ns : List Int) (o : Opn), LayQ W1.heap.size (.slice none 0 0) 0 [] ns W1 (.returned v1) w2 → Below w2.heap.size w2 V → okO o → ns.length ≤ 10000000 →
      Calls Try.prog 120 #[v1, o.val] V fun e w' => LayQ W1.heap.size (.slice none 0 0) 0 [] (ns ++ opN o) W1 e w') := fun v1 w2 V ns o q hV ho hn =>
    opMore q (Nat.le_refl _) hV o ho (by omega) hn
  have hvn1 : vn ≤ 100000 := by omega
  have hon1 : on ≤ 100000 := by omega
  obtain ⟨X, hX⟩ : ∃ X, X = w.heap.size := ⟨_, rfl⟩
  obtain ⟨k0, k1, k2, k3, k4⟩ := HK.out W1 (Below.refl _ _)
  rw [← hX] at HK k0 k1 k2 k3 k4
  have HX : Hid (X = w.heap.size) := hX
  have HVN : Hid (f.vec.length = vn) := hvn
  have HON : Hid (f.ops.length = on) := hon
  have HN1 : Hid (f.vec.length ≤ 100000 ∧ f.ops.length ≤ 100000) := ⟨h1, h2⟩
  have r0 : Hid (∀ y ∈ [f.kind, f.fr, ((vn : Nat) : Int)], 0 ≤ y ∧ y ≤ 9223372036854775807) := by
    intro y hy
    refine HRNG.out y ?_
    rw [numN, hvn]
    exact List.mem_append_left _ hy
  have HC1 : Hid (Calls Try.prog 119 #[.slice none 0 0, .slice (some ⟨W1.heap.size, 0, none⟩) 3 3] (W1.alloc (.cells #[.int .i64 f.kind, .int .i64 f.fr, .int .i64 vn] 3)) fun e w' => LayQ W1.heap.size (.slice none 0 0) 0 [] (num1 f 0) W1 e w') := by
    have := HLAY.out _ W1 (W1.alloc (.cells #[.int .i64 f.kind, .int .i64 f.fr, .int .i64 vn] 3)) [] [f.kind, f.fr, ((vn : Nat) : Int)] W1.heap.size 3 _ HS0.out ((Below.refl _ W1).alloc (Nat.le_refl _) _) (heap_alloc_new W1 _) (Nat.le_refl _) rfl rfl r0.out (by simp) (by omega)
    rw [num1, hvn]
    exact this
  clear hre hrp hb1 hbx hok hX hvn hon h1 h2
  go_enter Try.func68, Try.ntmps68
  go_upto_region 1 with fail
  simp only [← hW1, ← HX.out]
  clear hW1
  go_wp2_with (go_at_call 119; refine HC1.out.mono ?_; rintro e w2 ⟨v1, rfl, q1, q2, q3⟩; have HL1 : Hid (LayQ W1.heap.size (.slice none 0 0) 0 [] (num1 f 0) W1 (.returned v1) w2) := ⟨v1, rfl, q1, q2, q3⟩; obtain ⟨j0, j1, j2, j3, j4⟩ := HK.out w2 (layQ_bel HL1.out); clear q1 q2 q3 j0 j1 j3 j4)
  clear HC1 HS0 k0 k1 k2 k3 k4
  go_loopw [3, 20] (fun x3 x20 wr => ∃ (k : Nat) (u : Value), x20 = .int .i64 (k : Int) ∧ x3 = u ∧ k ≤ vn ∧ LayQ W1.heap.size (.slice none 0 0) 0 [] (num1 f k) W1 (.returned u) wr) (fun _ x20 _ => vn - (RowKit.intOf x20).toNat)
  case atStart => exact ⟨0, _, rfl, rfl, by omega, HL1.out⟩
  case round =>
    obtain ⟨k, u, hx, hx0, hk, hq⟩ := hrel
    subst hx hx0
    have HQ : Hid (LayQ W1.heap.size (.slice none 0 0) 0 [] (num1 f k) W1 (.returned u3) wr) := hq
    clear hq HL1 j2
    have hbr := layQ_bel HQ.out
    obtain ⟨j0, j1, j2, j3, j4⟩ := HK.out wr hbr
    by_cases hlt : k < vn
    · obtain ⟨b, off, hsa, c0, c1⟩ := (HRE.out wr (HB1.out.trans (hbr.mono HB1.out.size))).at k hlt
      subst hsa
      have hnx := num1_next f k (by rw [HVN.out]; exact hlt)
      have hyr : ∀ y ∈ enN (f.vec.getD k (0, 0)), 0 ≤ y ∧ y ≤ 9223372036854775807 := fun y hy => HRNG.out y (by
        rw [numN]
        refine List.mem_append_right _ (List.mem_append_left _ (List.mem_flatMap.2 ⟨f.vec.getD k (0, 0), ?_, hy⟩))
        have := HVN.out
        simp [show k < f.vec.length by omega])
      generalize f.vec.getD k (0, 0) = E at c0 c1 hnx hyr
      obtain ⟨e1, e2⟩ := E
      have HNX : Hid (num1 f (k + 1) = num1 f k ++ [e1, e2]) := hnx
      have HC : Hid (Calls Try.prog 119 #[u3, .slice (some ⟨wr.heap.size + 1, 0, none⟩) 2 2] ((wr.alloc (.cells #[.int .i64 e1, .int .i64 e2] 107)).alloc (.cells #[.int .i64 e1, .int .i64 e2] 3)) fun e w' => LayQ W1.heap.size (.slice none 0 0) 0 [] (num1 f (k + 1)) W1 e w') := by
        have := HLAY.out u3 wr ((wr.alloc (.cells #[.int .i64 e1, .int .i64 e2] 107)).alloc (.cells #[.int .i64 e1, .int .i64 e2] 3)) (num1 f k) [e1, e2] (wr.heap.size + 1) 2 _ HQ.out (((Below.refl _ wr).alloc (Nat.le_refl _) _).alloc (by simp) _) (by have := heap_alloc_new (wr.alloc (.cells #[.int .i64 e1, .int .i64 e2] 107)) (.cells #[.int .i64 e1, .int .i64 e2] 3); simpa using this) (Nat.le_succ _) rfl rfl hyr (by have := num1_len f k; have := HN1.out; omega) (by omega)
        rw [← HNX.out] at this
        exact this
      clear hnx hyr hbr HK HRE HLAY HOP HQ j0 j1 j2 j3 j4
      go_wp2_with (go_at_call 119; refine HC.out.mono ?_; rintro e w2 ⟨v1, rfl, q1, q2, q3⟩; have HL1 : Hid (LayQ W1.heap.size (.slice none 0 0) 0 [] (num1 f (k + 1)) W1 (.returned v1) w2) := ⟨v1, rfl, q1, q2, q3⟩; clear q1 q2 q3)
      go_roundw
      case rel => exact ⟨k + 1, _, by go_num, rfl, by omega, HL1.out⟩
      case measure => simp [RowKit.intOf]; omega
    · obtain rfl : k = vn := by omega
      have HC2 : Hid (Calls Try.prog 119 #[u3, .slice (some ⟨wr.heap.size, 0, none⟩) 1 1] (wr.alloc (.cells #[.int .i64 on] 3)) fun e w' => LayQ W1.heap.size (.slice none 0 0) 0 [] (num2 f 0) W1 e w') := by
        have := HLAY.out u3 wr (wr.alloc (.cells #[.int .i64 on] 3)) (num1 f k) [((on : Nat) : Int)] wr.heap.size 1 _ HQ.out ((Below.refl _ wr).alloc (Nat.le_refl _) _) (heap_alloc_new wr _) (Nat.le_refl _) rfl rfl (by
          intro y hy
          simp only [List.mem_cons, List.not_mem_nil, or_false] at hy
          have := HN1.out; have := HON.out
          omega) (by have := num1_len f k; have := HN1.out; omega) (by omega)
        have e : num2 f 0 = num1 f k ++ [((on : Nat) : Int)] := by rw [num2, HVN.out, HON.out]; simp
        rw [← e] at this
        exact this
      clear hbr HRE HLAY HQ j0 j1 j2 j4
      go_wp2_with (go_at_call 119; refine HC2.out.mono ?_; rintro e w3 ⟨v2, rfl, q1, q2, q3⟩; have HL2 : Hid (LayQ W1.heap.size (.slice none 0 0) 0 [] (num2 f 0) W1 (.returned v2) w3) := ⟨v2, rfl, q1, q2, q3⟩; obtain ⟨m0, m1, m2, m3, m4⟩ := HK.out w3 (layQ_bel HL2.out); clear q1 q2 q3 m0 m1 m2 m4 j3 HC2)
      go_loopw [3, 41] (fun x3 x41 wr => ∃ (k : Nat) (u : Value), x41 = .int .i64 (k : Int) ∧ x3 = u ∧ k ≤ on ∧ LayQ W1.heap.size (.slice none 0 0) 0 [] (num2 f k) W1 (.returned u) wr) (fun _ x41 _ => on - (RowKit.intOf x41).toNat)
      case atStart => exact ⟨0, _, rfl, rfl, by omega, HL2.out⟩
      case round =>
        clear HL2
        obtain ⟨k, u, hx, hx0, hk, hq⟩ := hrel
        subst hx hx0
        have HQ : Hid (LayQ W1.heap.size (.slice none 0 0) 0 [] (num2 f k) W1 (.returned u3) wr) := hq
        clear hq
        have hbr := layQ_bel HQ.out
        obtain ⟨j0, j1, j2, j3, j4⟩ := HK.out wr hbr
        by_cases hlt : k < on
        · obtain ⟨b, off, hsa, c0, c1, c2, c3, c4, c5, c6⟩ := (HRP.out wr (HB1.out.trans (hbr.mono HB1.out.size))).at k hlt
          subst hsa
          have hnx := num2_next f k (by rw [HON.out]; exact hlt)
          have hoo : okO (f.ops.getD k op0) := HOK.out.2.2.2.2.2.1 _ (by
            have := HON.out
            simp [show k < f.ops.length by omega])
          generalize f.ops.getD k op0 = E at c0 c1 c2 c3 c4 c5 c6 hnx hoo
          have HNX : Hid (num2 f (k + 1) = num2 f k ++ opN E) := hnx
          obtain ⟨W2, hW2⟩ : ∃ W2, W2 = wr.alloc (.cells #[.int .i64 E.c, .int .i64 E.a, .int .i64 E.s, .bool E.ins, .int .i64 E.rc, .int .i64 E.ra, .int .i32 E.ch] 34) := ⟨_, rfl⟩
          have HC : Hid (Calls Try.prog 120 #[u3, .agg #[.int .i64 E.c, .int .i64 E.a, .int .i64 E.s, .bool E.ins, .int .i64 E.rc, .int .i64 E.ra, .int .i32 E.ch]] (wr.alloc (.cells #[.int .i64 E.c, .int .i64 E.a, .int .i64 E.s, .bool E.ins, .int .i64 E.rc, .int .i64 E.ra, .int .i32 E.ch] 34)) fun e w' => LayQ W1.heap.size (.slice none 0 0) 0 [] (num2 f (k + 1)) W1 e w') := by
            have := HOP.out u3 wr (wr.alloc (.cells #[.int .i64 E.c, .int .i64 E.a, .int .i64 E.s, .bool E.ins, .int .i64 E.rc, .int .i64 E.ra, .int .i32 E.ch] 34)) (num2 f k) E HQ.out ((Below.refl _ wr).alloc (Nat.le_refl _) _) hoo (by have := num2_len f k; have := HN1.out; omega)
            rw [← HNX.out] at this
            exact this
          clear hnx hoo hbr HK HRP HOP HQ j0 j1 j2 j3 j4 hW2
          go_wp2_with (go_at_call 120; refine HC.out.mono ?_; rintro e w2 ⟨v1, rfl, q1, q2, q3⟩; have HL1 : Hid (LayQ W1.heap.size (.slice none 0 0) 0 [] (num2 f (k + 1)) W1 (.returned v1) w2) := ⟨v1, rfl, q1, q2, q3⟩; clear q1 q2 q3)
          go_roundw
          case rel => exact ⟨k + 1, _, by go_num, rfl, by omega, HL1.out⟩
          case measure => simp [RowKit.intOf]; omega
        · obtain rfl : k = on := by omega
          have HC2 : Hid (Calls Try.prog 119 #[u3, .slice (some ⟨wr.heap.size, 0, none⟩) 1 1] (wr.alloc (.cells #[.int .i64 f.next] 3)) fun e w' => LayQ W1.heap.size (.slice none 0 0) 0 [] (numN f) W1 e w') := by
            have := layMore HQ.out (Nat.le_refl _) ((Below.refl _ wr).alloc (Nat.le_refl _) _) [f.next] wr.heap.size 1 #[.int .i64 f.next] 3 (heap_alloc_new wr _) (Nat.le_refl _) rfl rfl (by
              intro y hy
              refine HRNG.out y ?_
              rw [numN]
              simp only [List.mem_cons, List.not_mem_nil, or_false] at hy
              rw [hy]
              simp) (by omega) (by have := num2_len f k; have := HN1.out; omega) (by omega)
            rw [← HON.out, num_all f] at this
            exact this
          clear hbr HRP HOP HQ j0 j1 j2 j3
          go_wp2_with (go_at_call 119; refine HC2.out.mono ?_; rintro e w5 ⟨v5, rfl, q1, q2, q3⟩; have HL5 : Hid (LayQ W1.heap.size (.slice none 0 0) 0 [] (numN f) W1 (.returned v5) w5) := ⟨v5, rfl, q1, q2, q3⟩; clear q1 q2 q3 j4 HC2)
          go_ret
          have hb5 := layQ_bel HL5.out
          have ho5 := layQ_own HL5.out
          refine ⟨v5, rfl, ?_, HB1.out.trans (hb5.mono HB1.out.size)⟩
          rw [Nat.zero_add, List.nil_append] at ho5
          exact own_base ho5 HB1.out.size
end Go.Proofs.Ytcbnmahbdcjamaa
