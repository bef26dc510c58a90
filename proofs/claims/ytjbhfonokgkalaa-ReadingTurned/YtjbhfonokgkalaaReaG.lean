/- The walk of markedNode: by induction on how deep the node is. -/
import Derived.Test.YtjbhfonokgkalaaReaGb
namespace Go.Proofs.Ytjbhfonokgkalaa
open Go.RowKit
set_option linter.unusedVariables false
set_option linter.unusedSimpArgs false

theorem rev_nd (l : List Nd) (k i : Nat) (hk : k = l.length) (h : i < (revL true l).length) (h2 : k - 1 - i < l.length) : (revL true l)[i] = l[k - 1 - i] := by
  subst hk
  simp only [revL, ↓reduceIte, List.getElem_reverse]
theorem rev_mk (l : List Mk) (k i : Nat) (hk : k = l.length) (h : i < l.reverse.length) (h2 : k - 1 - i < l.length) : l.reverse[i] = l[k - 1 - i] := by
  subst hk
  simp only [List.getElem_reverse]

set_option maxHeartbeats 16000000 in
theorem mn_up (B d : Nat) (t : Bool) (HP : MnC B d t) : MnC B (d + 1) t := by
  intro n ca pa cc pc w nest hin hB hd hnest
  have HPC : Hid (MnC B d t) := HP
  have HIN : Hid (InV B w (d + 1) n [.int .i64 n.op, .slice ca n.cl.length cc, .slice pa (toL n.kids).length pc]) := hin
  obtain ⟨i0, hi, hz0, hz1, hz2⟩ := info_parts info_K
  have HI : Hid (Try.prog.info? 82 = some i0 ∧ i0.zero = some (.agg #[.int .i64 0, .slice none 0 0, .slice none 0 0, .bool false, .bool false]) ∧ i0.size = 5 ∧ i0.bytes = 64) := ⟨hi, hz0, hz1, hz2⟩
  obtain ⟨ca', cc', pa', pc', hv, hrd, hcb, hcl, hkl, hkids⟩ := hin
  simp only [List.cons.injEq, Value.slice.injEq, and_true, true_and] at hv
  obtain ⟨⟨rfl, rfl⟩, rfl, rfl⟩ := hv
  obtain ⟨op, hop⟩ : ∃ op, op = n.op := ⟨_, rfl⟩
  obtain ⟨cn, hcn⟩ : ∃ cn, cn = n.cl.length := ⟨_, rfl⟩
  obtain ⟨K, hK⟩ : ∃ K, K = (toL n.kids).length := ⟨_, rfl⟩
  rw [← hop, ← hcn, ← hK]
  have hneg : ¬ nest < 0 := by omega
  have hn0 : 0 ≤ nest := by omega
  have hKi : (K : Int) ≤ 2600000000000 := by omega
  have HX : Hid (op = n.op ∧ cn = n.cl.length ∧ K = (toL n.kids).length ∧ B ≤ w.heap.size ∧ ((d + 1 : Nat) : Int) ≤ nest + 1) := ⟨hop, hcn, hK, hB, hd⟩
  obtain ⟨H, hH⟩ : ∃ H, H = w.heap.size := ⟨_, rfl⟩
  clear hi hz0 hz1 hz2 HP hrd hcb hcl hkl hkids hop hcn hK hB hd
  obtain ⟨R, hR⟩ : ∃ R, R = w.heap.size + 1 := ⟨_, rfl⟩
  obtain ⟨M, hM⟩ : ∃ M, M = w.heap.size + 1 + 1 := ⟨_, rfl⟩
  obtain ⟨kl, hkl⟩ : ∃ kl, kl = if cnt op K = true then toL n.kids else [] := ⟨_, rfl⟩
  obtain ⟨qa, L, qc, hq, hL, hqa⟩ : ∃ qa L qc, (if cnt op K = true then Value.slice pa K pc else .slice none 0 0) = .slice qa L qc ∧ L = kl.length ∧ (0 < L → qa = pa ∧ kl = toL n.kids) := by
    cases hc : cnt op K with
    | true => exact ⟨pa, K, pc, rfl, by rw [hkl, hc, HX.out.2.2.1]; rfl, fun _ => ⟨rfl, by rw [hkl, hc]; rfl⟩⟩
    | false => exact ⟨none, 0, 0, rfl, by rw [hkl, hc]; rfl, fun h => absurd h (by omega)⟩
  have hLi : (L : Int) ≤ 2600000000000 := by
    rw [hL, hkl]
    split
    · have := HX.out.2.2.1; omega
    · simp
  obtain ⟨W0, hW0⟩ : ∃ W0, W0 = (((w.alloc (.cells #[.int .i64 op, .slice ca cn cc, .slice pa K pc] 33)).alloc (.cells #[.int .i64 0, .slice none 0 0, .slice none 0 0, .bool false, .bool false] 82)).alloc (.cells #[.int .i64 op, .slice ca cn cc, .slice none 0 0, .bool false, .bool false] 82)) := ⟨_, rfl⟩
  have HS0 : Hid (W0.heap.size = H + 3) := by show _ = _; rw [hW0, hH]; simp
  have HB0 : Hid (Below H w W0) := by rw [hW0, hH]; exact (((Below.refl _ w).alloc (Nat.le_refl _) _).alloc (by simp) _).alloc (by simp; omega) _
  have HM0 : Hid (W0.heap[M]? = some (.cells #[.int .i64 op, .slice ca cn cc, .slice none 0 0, .bool false, .bool false] 82)) := by
    have := heap_alloc_new ((w.alloc (.cells #[.int .i64 op, .slice ca cn cc, .slice pa K pc] 33)).alloc (.cells #[.int .i64 0, .slice none 0 0, .slice none 0 0, .bool false, .bool false] 82)) (.cells #[.int .i64 op, .slice ca cn cc, .slice none 0 0, .bool false, .bool false] 82)
    rw [← hW0, show ((w.alloc (.cells #[.int .i64 op, .slice ca cn cc, .slice pa K pc] 33)).alloc (.cells #[.int .i64 0, .slice none 0 0, .slice none 0 0, .bool false, .bool false] 82)).heap.size = M by rw [hM]; simp] at this
    exact this
  have HR0 : Hid (W0.heap[R]? = some (.cells #[.int .i64 0, .slice none 0 0, .slice none 0 0, .bool false, .bool false] 82)) := by
    show _ = _
    rw [hW0, Below.heap_alloc _ _ _ (by rw [hR]; simp)]
    have := heap_alloc_new (w.alloc (.cells #[.int .i64 op, .slice ca cn cc, .slice pa K pc] 33)) (.cells #[.int .i64 0, .slice none 0 0, .slice none 0 0, .bool false, .bool false] 82)
    rw [show (w.alloc (.cells #[.int .i64 op, .slice ca cn cc, .slice pa K pc] 33)).heap.size = R by rw [hR]; simp] at this
    exact this
  have hn0b : W0.heap[H]? = some (.cells #[.int .i64 op, .slice ca cn cc, .slice pa K pc] 33) := by
    rw [hW0, hH, Below.heap_alloc _ _ _ (by simp; omega), Below.heap_alloc _ _ _ (by simp)]
    exact heap_alloc_new w _
  have n0 := cell_of_row W0 H 0 _ _ _ hn0b
  have n1 := cell_of_row W0 H 1 _ _ _ hn0b
  have n2 := cell_of_row W0 H 2 _ _ _ hn0b
  simp at n0 n1 n2
  have HRM : Hid (R = H + 1 ∧ M = H + 2 ∧ H = w.heap.size) := ⟨by rw [hR, hH], by rw [hM, hH], hH⟩
  have HPT : Hid (Calls Try.prog 85 #[.agg #[.int .i64 op, .slice ca cn cc, .slice pa K pc]] W0 fun x w' => x = .returned (.slice qa L qc) ∧ Below W0.heap.size W0 w') := by
    rw [← hq]; exact parts_any op ca pa cn cc K pc W0 (by omega)
  have HKL : Hid (kl = (if cnt op K = true then toL n.kids else []) ∧ L = kl.length ∧ (0 < L → qa = pa ∧ kl = toL n.kids)) := ⟨hkl, hL, hqa⟩
  clear hkl hq hL hqa hn0b
  go_enter Try.func79, Try.ntmps79
  go_upto_region 4 with fail
  rw [← hW0, ← hM, ← hR, ← hH]
  clear hW0 hM hR hH
  go_wp2_with fail
  refine HPT.out.mono ?_
  rintro e w1 ⟨rfl, hb1⟩
  have HST : Hid (MnAt B d t op ca cn cc kl H R M 0 w w1) := by
    have e1 := HRM.out
    have e2 := HS0.out
    refine ⟨.slice none 0 0, [], fun _ _ => False, (hb1.block M (by omega)).trans HM0.out, (hb1.block R (by omega)).trans HR0.out, World.ownsRow_nil _ _ _ _, rfl, HB0.out.trans (hb1.mono (by omega)), by have := hb1.size; omega, fun i hi => absurd hi (by simp)⟩
  clear hb1 n0 n1 n2 HM0 HR0 HB0 HS0 HPT
  go_wp2
  go_loopw [24] (fun x24 wr => ∃ k : Nat, k ≤ L ∧ x24 = .int .i64 k ∧ MnAt B d t op ca cn cc kl H R M k w wr) (fun x24 _ => L - (intOf x24).toNat)
  case atStart => exact ⟨0, by omega, rfl, HST.out⟩
  case round =>
    obtain ⟨k, hk, hx24, hat⟩ := hrel
    subst hx24
    have HAT : Hid (MnAt B d t op ca cn cc kl H R M k w wr) := hat
    clear hat HST
    by_cases hlt : k < L
    · obtain ⟨hqe, hkle⟩ := HKL.out.2.2 (by omega)
      subst hqe
      have hkn : k < (toL n.kids).length := by rw [← hkle, ← HKL.out.2.1]; exact hlt
      have hkk : k < kl.length := by rw [hkle]; exact hkn
      obtain ⟨_, _, _, _, hv, _, _, _, _, hkids⟩ := HIN.out
      simp only [List.cons.injEq, Value.slice.injEq, and_true, true_and] at hv
      obtain ⟨⟨rfl, rfl⟩, rfl, rfl⟩ := hv
      obtain ⟨b, off, rfl, hat⟩ := hkids (by omega)
      obtain ⟨us, hus, hcell⟩ := hat k hkn
      obtain ⟨xa, xc, ya, yc, rfl⟩ := hus.three
      obtain ⟨x, hx⟩ : ∃ x, x = (toL n.kids)[k] := ⟨_, rfl⟩
      rw [← hx] at hus hcell
      have HKX : Hid (kl[k]'hkk = x) := by show _ = _; rw [hx]; simp only [hkle]
      obtain ⟨pv, xs, fps, m1, m2, m3, m4, m5, m6, m7⟩ := HAT.out
      obtain ⟨av, cv, rfl⟩ := own_sl1 m3
      have hup : ∀ (p : Addr) (v : Value), w.cell? p = some v → wr.cell? p = some v := fun p v hv => (m5.cell (by have := HRM.out.2.2; have := World.block_lt_of_cell? w _ hv; omega)).trans hv
      have c0 := hup _ _ (hcell 0 _ rfl)
      have c1 := hup _ _ (hcell 1 _ rfl)
      have c2 := hup _ _ (hcell 2 _ rfl)
      simp only [Nat.add_zero] at c0
      obtain ⟨xo, hxo⟩ : ∃ xo, xo = x.op := ⟨_, rfl⟩
      obtain ⟨xn, hxn⟩ : ∃ xn, xn = x.cl.length := ⟨_, rfl⟩
      obtain ⟨xk, hxk⟩ : ∃ xk, xk = (toL x.kids).length := ⟨_, rfl⟩
      rw [← hxo] at c0
      rw [← hxn] at c1
      rw [← hxk] at c2
      obtain ⟨P1, hP1⟩ : ∃ P1, P1 = wr.alloc (.cells #[.int .i64 xo, .slice xa xn xc, .slice ya xk yc] 33) := ⟨_, rfl⟩
      have HBP : Hid (Below wr.heap.size wr P1) := by rw [hP1]; exact (Below.refl _ wr).alloc (Nat.le_refl _) _
      have HBW : Hid (Below H w P1) := m5.trans (HBP.out.mono (by omega))
      have HC : Hid (Calls Try.prog 79 #[.agg #[.int .i64 xo, .slice xa xn xc, .slice ya xk yc], .bool t, .int .i64 (nest - 1)] P1 (MnPost B d t x P1)) := by
        have e1 := HX.out
        have e2 := HRM.out
        have e3 := HBP.out.size
        rw [hxo, hxn, hxk]
        refine HPC.out x xa ya xc yc P1 (nest - 1) (hus.later ?_ d) (by omega) (by omega) (by omega)
        exact HBW.out.mono (by omega)
      have hpb : P1.heap[wr.heap.size]? = some (.cells #[.int .i64 xo, .slice xa xn xc, .slice ya xk yc] 33) := by rw [hP1]; exact heap_alloc_new wr _
      obtain ⟨T, hT⟩ : ∃ T, T = wr.heap.size := ⟨_, rfl⟩
      rw [← hT] at hpb
      have t0 := cell_of_row P1 T 0 _ _ _ hpb
      have t1 := cell_of_row P1 T 1 _ _ _ hpb
      have t2 := cell_of_row P1 T 2 _ _ _ hpb
      simp at t0 t1 t2
      have HM : Hid (wr.heap[M]? = some (.cells #[.int .i64 op, .slice ca cn cc, .slice av k cv, .bool false, .bool false] 82) ∧ wr.heap[R]? = some (.cells #[.int .i64 0, .slice none 0 0, .slice none 0 0, .bool false, .bool false] 82) ∧ wr.ownsRow (H + 3) 82 5 (.slice av k cv) k (flatK xs) ∧ xs.length = k ∧ Below H w wr ∧ H + 3 ≤ wr.heap.size) := ⟨m1, m2, m3, m4, m5, m6⟩
      have HM7 : Hid (∀ i (hi : i < xs.length) (hl : i < kl.length), (∀ y, fps i y → H + 3 ≤ y ∧ y < wr.heap.size ∧ (Value.slice av k cv).ownBlock ≠ some y) ∧ (∀ j, j < i → ∀ y, fps i y → ¬ fps j y) ∧ NdV B wr d (kl[i].nrm t) [] xs[i].vals (fps i)) := m7
      have wn1 : IntKind.i64.wrap (nest - 1) = nest - 1 := by rw [IntKind.wrap_i64]; omega
      have HPS : Hid (P1.heap.size = wr.heap.size + 1 ∧ T = wr.heap.size) := ⟨by rw [hP1]; simp, hT⟩
      clear hkids hat hus hcell hx hup hxo hxn hxk m1 m2 m3 m4 m5 m6 m7 hpb HAT
      go_upto_region 7 with fail
      rw [← hT, ← hP1]
      clear hT hP1 c0 c1 c2
      go_wp2_with fail
      refine HC.out.mono ?_
      rintro e w2 ⟨hb2, ⟨zo, za, zn, zc, ka, kn, kc, zm, ze⟩, fp, rfl, hfp, hnd⟩
      dsimp only [Mk.agg]
      have HB2 : Hid (Below P1.heap.size P1 w2) := hb2
      have HFP : Hid (∀ y, fp y → P1.heap.size ≤ y ∧ y < w2.heap.size) := hfp
      have HND : Hid (NdV B w2 d (x.nrm t) [] [.int .i64 zo, .slice za zn zc, .slice ka kn kc, .bool zm, .bool ze] fp) := hnd
      clear hb2 hfp hnd t0 t1 t2 HC
      obtain ⟨P3, hP3⟩ : ∃ P3, P3 = w2.alloc (.cells #[.int .i64 zo, .slice za zn zc, .slice ka kn kc, .bool zm, .bool ze] 82) := ⟨_, rfl⟩
      obtain ⟨Z, hZ⟩ : ∃ Z, Z = w2.heap.size := ⟨_, rfl⟩
      have HZB : Hid (P3.heap[Z]? = some (.cells #[.int .i64 zo, .slice za zn zc, .slice ka kn kc, .bool zm, .bool ze] 82)) := by rw [hP3, hZ]; exact heap_alloc_new w2 _
      have HB3 : Hid (Below wr.heap.size wr P3) := by
        have e1 := HPS.out.1
        have e2 := HB2.out.size
        have := (HBP.out.trans (HB2.out.mono (by omega))).alloc (B := wr.heap.size) (by omega) (.cells #[.int .i64 zo, .slice za zn zc, .slice ka kn kc, .bool zm, .bool ze] 82)
        rw [← hP3] at this
        exact this
      have HS3 : Hid (P3.heap.size = Z + 1 ∧ Z = w2.heap.size ∧ wr.heap.size + 1 ≤ Z) := ⟨by rw [hP3, hZ]; simp, hZ, by rw [hZ, ← HPS.out.1]; exact HB2.out.size⟩
      go_upto_region 10 with fail
      rw [← hZ, ← hP3]
      have HN3 : Hid (NdV B P3 d (x.nrm t) [] [.int .i64 zo, .slice za zn zc, .slice ka kn kc, .bool zm, .bool ze] fp) := HND.out.frame d (fun g hg _ => by rw [hP3, Below.heap_alloc _ _ _ hg])
      clear hZ hP3 HND HB2
      have HO3 : Hid (P3.ownsRow (H + 3) 82 5 (.slice av k cv) k (flatK xs)) := own_later5 HM.out.2.2.1 HB3.out
      have hMlt : M < wr.heap.size := by have := HRM.out; have := HM.out.2.2.2.2.2; omega
      have hM3 : P3.heap[M]? = some (.cells #[.int .i64 op, .slice ca cn cc, .slice av k cv, .bool false, .bool false] 82) := (HB3.out.block M hMlt).trans HM.out.1
      obtain ⟨⟨_, _, mc, _, _⟩, mf⟩ := box5 hM3
      have mf2 := mf 2
      have hz3 := HZB.out
      have hMZ : M ≠ Z := by have := HS3.out; have := HB3.out.size; have := HPS.out; omega
      have hM3s : M < P3.heap.size := by have := HB3.out.size; omega
      have hZ3s : Z < P3.heap.size := by have := HS3.out; omega
      have hownM : (Value.slice av k cv).ownBlock ≠ some M := fun e => by have := (HO3.out.lt M e).1; have := HRM.out; omega
      have hownZ : (Value.slice av k cv).ownBlock ≠ some Z := fun e => by have := (HM.out.2.2.1.lt Z e).2; have := HS3.out; have := HPS.out; have := HB3.out.size; omega
      have hbs : H + 3 ≤ P3.heap.size := by have := HM.out.2.2.2.2.2; have := HB3.out.size; omega
      have HGO : Hid (∀ (W w1 : World) (g cap : Nat), (W = (P3.alloc (.cells #[.int .i64 0, .slice none 0 0, .slice none 0 0, .bool false, .bool false] 82)).drew) → w1.ownsRow (H + 3) 82 5 (.slice (some ⟨g, 0, none⟩) (k + 1) cap) (k + 1) (flatK xs ++ [.int .i64 0, .slice none 0 0, .slice none 0 0, .bool false, .bool false]) → W.grownBy w1 (Value.slice av k cv).ownBlock → ((Value.slice av k cv).ownBlock = some g ∨ g = W.heap.size) → g < w1.heap.size →
          (w1.cell? ⟨g, k * 5, none⟩ = some (.int .i64 0) ∧ w1.cell? ⟨g, k * 5 + 1, none⟩ = some (.slice none 0 0) ∧ w1.cell? ⟨g, k * 5 + 2, none⟩ = some (.slice none 0 0) ∧ w1.cell? ⟨g, k * 5 + 3, none⟩ = some (.bool false) ∧ w1.cell? ⟨g, k * 5 + 4, none⟩ = some (.bool false)) ∧ (∀ q, w1.frozen? ⟨g, q, none⟩ = false) ∧ g ≠ M ∧ g ≠ Z ∧
          w1.heap[M]? = some (.cells #[.int .i64 op, .slice ca cn cc, .slice av k cv, .bool false, .bool false] 82) ∧ w1.heap[Z]? = some (.cells #[.int .i64 zo, .slice za zn zc, .slice ka kn kc, .bool zm, .bool ze] 82) ∧
          MnAt B d t op ca cn cc kl H R M (k + 1) w ((F5 w1 g (k * 5) ⟨zo, za, zn, zc, ka, kn, kc, zm, ze⟩).setCell ⟨M, 2, none⟩ (.slice (some ⟨g, 0, none⟩) (k + 1) cap))) := by
        intro W w1 g cap hW hown1 hgrow hat hlt1
        exact mn_step (xx := ⟨zo, za, zn, zc, ka, kn, kc, zm, ze⟩) (n1 := x) HRM.out.1 HRM.out.2.1 (by have := HX.out.2.2.2.1; have := HRM.out.2.2; omega) HM.out.2.2.2.2.2 HM.out.1 HM.out.2.1 HM.out.2.2.1 HM.out.2.2.2.1 HM.out.2.2.2.2.1 HM7.out HB3.out HZB.out HS3.out.1 HS3.out.2.2 (fun y hy => by have h1 := HFP.out y hy; have h2 := HS3.out.2.1; have h3 := HPS.out.1; omega) HN3.out hkk HKX.out W w1 g cap hW hown1 hgrow hat hlt1
      have hk0 : (0 : Int) ≤ (k : Int) := by omega
      have hk1 : (k : Int) < (k : Int) + 1 := by omega
      clear hM3 mf HKX HFP HN3 HM HM7 HB3 HZB HBP HBW HPS HS3 hownM hownZ wn1 hkn hkk hkle HKL HIN HPC HX HRM
      have hzS : ∀ W : World, W.heap[Z]? = some (.cells #[.int .i64 zo, .slice za zn zc, .slice ka kn kc, .bool zm, .bool ze] 82) → W.heap[Z]? = some (.cells #[.int .i64 zo, .slice za zn zc, .slice ka kn kc, .bool zm, .bool ze] 82) ∧ W.cell? ⟨Z, 0, none⟩ = some (.int .i64 zo) ∧ W.cell? ⟨Z, 1, none⟩ = some (.slice za zn zc) ∧ W.cell? ⟨Z, 2, none⟩ = some (.slice ka kn kc) ∧ W.cell? ⟨Z, 3, none⟩ = some (.bool zm) ∧ W.cell? ⟨Z, 4, none⟩ = some (.bool ze) := fun W hW => ⟨hW, (box5 hW).1⟩
      have HZS : Hid (∀ W : World, W.heap[Z]? = some (.cells #[.int .i64 zo, .slice za zn zc, .slice ka kn kc, .bool zm, .bool ze] 82) → W.heap[Z]? = some (.cells #[.int .i64 zo, .slice za zn zc, .slice ka kn kc, .bool zm, .bool ze] 82) ∧ W.cell? ⟨Z, 0, none⟩ = some (.int .i64 zo) ∧ W.cell? ⟨Z, 1, none⟩ = some (.slice za zn zc) ∧ W.cell? ⟨Z, 2, none⟩ = some (.slice ka kn kc) ∧ W.cell? ⟨Z, 3, none⟩ = some (.bool zm) ∧ W.cell? ⟨Z, 4, none⟩ = some (.bool ze)) := hzS
      have HZ3 : Hid (P3.heap[Z]? = some (.cells #[.int .i64 zo, .slice za zn zc, .slice ka kn kc, .bool zm, .bool ze] 82)) := hz3
      have HDR : Hid (∀ (W : World), W.heap[Z]? = some (.cells #[.int .i64 zo, .slice za zn zc, .slice ka kn kc, .bool zm, .bool ze] 82) → W.drew.heap[Z]? = some (.cells #[.int .i64 zo, .slice za zn zc, .slice ka kn kc, .bool zm, .bool ze] 82)) := fun W hW => hW
      have HAL : Hid (∀ (o : Obj), (P3.alloc o).heap[Z]? = some (.cells #[.int .i64 zo, .slice za zn zc, .slice ka kn kc, .bool zm, .bool ze] 82)) := fun o => (Below.heap_alloc _ _ _ hZ3s).trans hz3
      have HSM : Hid (∀ (W : World) (i : Nat) (v : Value), W.heap[Z]? = some (.cells #[.int .i64 zo, .slice za zn zc, .slice ka kn kc, .bool zm, .bool ze] 82) → (W.setCell ⟨M, i, none⟩ v).heap[Z]? = some (.cells #[.int .i64 zo, .slice za zn zc, .slice ka kn kc, .bool zm, .bool ze] 82)) := fun W i v hW => (Below.heap_setCell W _ v Z (fun e => hMZ e.symm)).trans hW
      have hZM : Z ≠ M := fun e => hMZ e.symm
      clear hzS hz3
      refine wp_region_noPanic ?_
      refine wp_region_held_drew (S := (fun w' => w'.heap[Z]? = some (.cells #[.int .i64 zo, .slice za zn zc, .slice ka kn kc, .bool zm, .bool ze] 82) ∧ w'.cell? ⟨Z, 0, none⟩ = some (.int .i64 zo) ∧ w'.cell? ⟨Z, 1, none⟩ = some (.slice za zn zc) ∧ w'.cell? ⟨Z, 2, none⟩ = some (.slice ka kn kc) ∧ w'.cell? ⟨Z, 3, none⟩ = some (.bool zm) ∧ w'.cell? ⟨Z, 4, none⟩ = some (.bool ze))) (by kernel_rfl) ?_ (fun hHeld => ?_)
      · (refine HZS.out _ ?_; repeat (first | with_reducible exact HZ3.out | with_reducible exact HZ1.out | with_reducible exact HAL.out _ | with_reducible refine HDR.out _ ?_ | with_reducible refine HSG.out _ _ _ ?_ | with_reducible refine HSM.out _ _ _ ?_))
      refine wpAnyH_take (i := 0) (v := ?_) rfl (by kernel_rfl) (by kernel_rfl) (by kernel_rfl) (fun _ _ _ h => h) (Or.inl ⟨by rfl, ?_⟩) (by assumption) ?_
      rotate_left
      · intro w hSw; (try dsimp only at hSw); go_simp; try with_reducible rfl
      try simp only [Act.put, List.setIfInBounds_toArray, List.set_cons_zero, List.set_cons_succ]
      refine wpAnyH_take (i := 2) (v := ?_) rfl (by kernel_rfl) (by kernel_rfl) (by kernel_rfl) (fun _ _ _ h => h) (Or.inl ⟨by rfl, ?_⟩) (by assumption) ?_
      rotate_left
      · intro w hSw; (try dsimp only at hSw); go_simp; try with_reducible rfl
      try simp only [Act.put, List.setIfInBounds_toArray, List.set_cons_zero, List.set_cons_succ]
      refine wpAnyH_ready (rs := [1, 4]) (by kernel_rfl) (by simp) ?_
      refine AllReadyH.cons rfl (fun K hK => ?_) ?_
      · skip
        go_simp
        refine hK.out _ _ ?_ (fun hHeld => ?_)
        · (refine HZS.out _ ?_; repeat (first | with_reducible exact HZ3.out | with_reducible exact HZ1.out | with_reducible exact HAL.out _ | with_reducible refine HDR.out _ ?_ | with_reducible refine HSG.out _ _ _ ?_ | with_reducible refine HSM.out _ _ _ ?_))
        clear hK K
        try simp only [Act.put, List.setIfInBounds_toArray, List.set_cons_zero, List.set_cons_succ]
        refine wpAnyH_take (i := 3) (v := ?_) rfl (by kernel_rfl) (by kernel_rfl) (by kernel_rfl) (fun _ _ _ h => h) (Or.inl ⟨by rfl, ?_⟩) (by assumption) ?_
        rotate_left
        · intro w hSw; (try dsimp only at hSw); go_simp; try with_reducible rfl
        try simp only [Act.put, List.setIfInBounds_toArray, List.set_cons_zero, List.set_cons_succ]
        refine wpAnyH_ready (rs := [4]) (by kernel_rfl) (by simp) ?_
        refine AllReadyH.cons rfl (fun K hK => ?_) ?_
        · skip
          go_simp
          refine hK.out _ _ ?_ (fun hHeld => ?_)
          · (refine HZS.out _ ?_; repeat (first | with_reducible exact HZ3.out | with_reducible exact HZ1.out | with_reducible exact HAL.out _ | with_reducible refine HDR.out _ ?_ | with_reducible refine HSG.out _ _ _ ?_ | with_reducible refine HSM.out _ _ _ ?_))
          clear hK K
          try simp only [Act.put, List.setIfInBounds_toArray, List.set_cons_zero, List.set_cons_succ]
          refine wpAnyH_ready (rs := [5]) (by kernel_rfl) (by simp) ?_
          refine AllReadyH.cons rfl (fun K hK => ?_) ?_
          · skip
            refine step_append_wide _ (by rfl) _ _ 80 (by rfl) (H + 3) 82 i0 _ 5 64 Try.underlying80 HI.out.1 HI.out.2.1 HI.out.2.2.1 HI.out.2.2.2 rfl (by decide) (.slice av k cv) k (flatK xs) (by rfl) ((HO3.out.alloc _).drew) ⟨P3.heap.size, 0, none⟩ 1 1 [.int .i64 0, .slice none 0 0, .slice none 0 0, .bool false, .bool false] (by rfl) (by rfl) (World.news_of_block (cs := #[.int .i64 0, .slice none 0 0, .slice none 0 0, .bool false, .bool false]) (t := 82) (fr := (0, 0)) (heap_alloc_new P3 _)) (by simp [Value.oneCell']) (by omega) (by unfold maxLen; omega) (by omega) (by simp; omega) ?_; intro g cap w1 hown1 hgrow hat hlt1; obtain ⟨⟨s0, s1, s2, s3, s4⟩, ff, gM, gZ, hM1, hZ1, hfin⟩ := HGO.out _ w1 g cap rfl hown1 hgrow hat hlt1; have ff0 := ff (k * 5); have ff1 := ff (k * 5 + 1); have ff2 := ff (k * 5 + 2); have ff3 := ff (k * 5 + 3); have ff4 := ff (k * 5 + 4); obtain ⟨⟨_, _, mc1, _, _⟩, mg⟩ := box5 hM1; have mg2 := mg 2; have HZ1 : Hid (w1.heap[Z]? = some (.cells #[.int .i64 zo, .slice za zn zc, .slice ka kn kc, .bool zm, .bool ze] 82)) := hZ1; have HSG : Hid (∀ (W : World) (i : Nat) (v : Value), W.heap[Z]? = some (.cells #[.int .i64 zo, .slice za zn zc, .slice ka kn kc, .bool zm, .bool ze] 82) → (W.setCell ⟨g, i, none⟩ v).heap[Z]? = some (.cells #[.int .i64 zo, .slice za zn zc, .slice ka kn kc, .bool zm, .bool ze] 82)) := (fun W i v hW => (Below.heap_setCell W _ v Z (fun e => gZ e.symm)).trans hW); have gM2 : M ≠ g := fun e => gM e.symm; have gZ2 : Z ≠ g := fun e => gZ e.symm; have HFI : Hid (MnAt B d t op ca cn cc kl H R M (k + 1) w ((((((w1.setCell ⟨g, k * 5, none⟩ (.int .i64 zo)).setCell ⟨g, k * 5 + 1, none⟩ (.slice za zn zc)).setCell ⟨g, k * 5 + 2, none⟩ (.slice ka kn kc)).setCell ⟨g, k * 5 + 3, none⟩ (.bool zm)).setCell ⟨g, k * 5 + 4, none⟩ (.bool ze)).setCell ⟨M, 2, none⟩ (.slice (some ⟨g, 0, none⟩) (k + 1) cap))) := hfin; rw [f5_comm _ _ _ _ _ _ _ gM] at hfin; have HFI2 : Hid (MnAt B d t op ca cn cc kl H R M (k + 1) w ((((((w1.setCell ⟨M, 2, none⟩ (.slice (some ⟨g, 0, none⟩) (k + 1) cap)).setCell ⟨g, k * 5, none⟩ (.int .i64 zo)).setCell ⟨g, k * 5 + 1, none⟩ (.slice za zn zc)).setCell ⟨g, k * 5 + 2, none⟩ (.slice ka kn kc)).setCell ⟨g, k * 5 + 3, none⟩ (.bool zm)).setCell ⟨g, k * 5 + 4, none⟩ (.bool ze))) := hfin; have HGM : Hid (g ≠ M) := gM; clear hM1 hZ1 hfin ff mg hown1 hgrow hat hlt1
            refine hK.out _ _ ?_ (fun hHeld => ?_)
            · (refine HZS.out _ ?_; repeat (first | with_reducible exact HZ3.out | with_reducible exact HZ1.out | with_reducible exact HAL.out _ | with_reducible refine HDR.out _ ?_ | with_reducible refine HSG.out _ _ _ ?_ | with_reducible refine HSM.out _ _ _ ?_))
            clear hK K
            try simp only [Act.put, List.setIfInBounds_toArray, List.set_cons_zero, List.set_cons_succ]
            refine wpAnyH_take (i := 6) (v := ?_) rfl (by kernel_rfl) (by kernel_rfl) (by kernel_rfl) (fun _ _ _ h => h) (Or.inl ⟨by rfl, ?_⟩) (by assumption) ?_
            rotate_left
            · intro w hSw; (try dsimp only at hSw); go_simp; try with_reducible rfl
            try simp only [Act.put, List.setIfInBounds_toArray, List.set_cons_zero, List.set_cons_succ]
            refine wpAnyH_take (i := 8) (v := ?_) rfl (by kernel_rfl) (by kernel_rfl) (by kernel_rfl) (fun _ _ _ h => h) (Or.inl ⟨by rfl, ?_⟩) (by assumption) ?_
            rotate_left
            · intro w hSw; (try dsimp only at hSw); go_simp; try with_reducible rfl
            try simp only [Act.put, List.setIfInBounds_toArray, List.set_cons_zero, List.set_cons_succ]
            refine wpAnyH_ready (rs := [7, 9]) (by kernel_rfl) (by simp) ?_
            refine AllReadyH.cons rfl (fun K hK => ?_) ?_
            · skip
              go_simp
              refine hK.out _ _ ?_ (fun hHeld => ?_)
              · (refine HZS.out _ ?_; repeat (first | with_reducible exact HZ3.out | with_reducible exact HZ1.out | with_reducible exact HAL.out _ | with_reducible refine HDR.out _ ?_ | with_reducible refine HSG.out _ _ _ ?_ | with_reducible refine HSM.out _ _ _ ?_))
              clear hK K
              try simp only [Act.put, List.setIfInBounds_toArray, List.set_cons_zero, List.set_cons_succ]
              refine wpAnyH_ready (rs := [9]) (by kernel_rfl) (by simp) ?_
              refine AllReadyH.cons rfl (fun K hK => ?_) ?_
              · skip
                go_simp
                refine hK.out _ _ ?_ (fun hHeld => ?_)
                · (refine HZS.out _ ?_; repeat (first | with_reducible exact HZ3.out | with_reducible exact HZ1.out | with_reducible exact HAL.out _ | with_reducible refine HDR.out _ ?_ | with_reducible refine HSG.out _ _ _ ?_ | with_reducible refine HSM.out _ _ _ ?_))
                clear hK K
                try simp only [Act.put, List.setIfInBounds_toArray, List.set_cons_zero, List.set_cons_succ]
                refine wpAnyH_done (by kernel_rfl) ?_ _
                refine NoPanic.normal ?_
                go_wp2
                go_roundw
                case rel =>
                  refine ⟨k + 1, by omega, by go_num, ?_⟩
                  first | (with_reducible exact HFI.out) | (with_reducible exact HFI2.out)
                case measure => simp [intOf]; omega
              exact AllReadyH.nil
            refine AllReadyH.cons rfl (fun K hK => ?_) ?_
            · skip
              go_simp
              refine hK.out _ _ ?_ (fun hHeld => ?_)
              · (refine HZS.out _ ?_; repeat (first | with_reducible exact HZ3.out | with_reducible exact HZ1.out | with_reducible exact HAL.out _ | with_reducible refine HDR.out _ ?_ | with_reducible refine HSG.out _ _ _ ?_ | with_reducible refine HSM.out _ _ _ ?_))
              clear hK K
              try simp only [Act.put, List.setIfInBounds_toArray, List.set_cons_zero, List.set_cons_succ]
              refine wpAnyH_ready (rs := [7]) (by kernel_rfl) (by simp) ?_
              refine AllReadyH.cons rfl (fun K hK => ?_) ?_
              · skip
                go_simp
                refine hK.out _ _ ?_ (fun hHeld => ?_)
                · (refine HZS.out _ ?_; repeat (first | with_reducible exact HZ3.out | with_reducible exact HZ1.out | with_reducible exact HAL.out _ | with_reducible refine HDR.out _ ?_ | with_reducible refine HSG.out _ _ _ ?_ | with_reducible refine HSM.out _ _ _ ?_))
                clear hK K
                try simp only [Act.put, List.setIfInBounds_toArray, List.set_cons_zero, List.set_cons_succ]
                refine wpAnyH_done (by kernel_rfl) ?_ _
                refine NoPanic.normal ?_
                go_wp2
                go_roundw
                case rel =>
                  refine ⟨k + 1, by omega, by go_num, ?_⟩
                  first | (with_reducible exact HFI.out) | (with_reducible exact HFI2.out)
                case measure => simp [intOf]; omega
              exact AllReadyH.nil
            exact AllReadyH.nil
          exact AllReadyH.nil
        exact AllReadyH.nil
      refine AllReadyH.cons rfl (fun K hK => ?_) ?_
      · skip
        go_simp
        refine hK.out _ _ ?_ (fun hHeld => ?_)
        · (refine HZS.out _ ?_; repeat (first | with_reducible exact HZ3.out | with_reducible exact HZ1.out | with_reducible exact HAL.out _ | with_reducible refine HDR.out _ ?_ | with_reducible refine HSG.out _ _ _ ?_ | with_reducible refine HSM.out _ _ _ ?_))
        clear hK K
        try simp only [Act.put, List.setIfInBounds_toArray, List.set_cons_zero, List.set_cons_succ]
        refine wpAnyH_ready (rs := [1]) (by kernel_rfl) (by simp) ?_
        refine AllReadyH.cons rfl (fun K hK => ?_) ?_
        · skip
          go_simp
          refine hK.out _ _ ?_ (fun hHeld => ?_)
          · (refine HZS.out _ ?_; repeat (first | with_reducible exact HZ3.out | with_reducible exact HZ1.out | with_reducible exact HAL.out _ | with_reducible refine HDR.out _ ?_ | with_reducible refine HSG.out _ _ _ ?_ | with_reducible refine HSM.out _ _ _ ?_))
          clear hK K
          try simp only [Act.put, List.setIfInBounds_toArray, List.set_cons_zero, List.set_cons_succ]
          refine wpAnyH_take (i := 3) (v := ?_) rfl (by kernel_rfl) (by kernel_rfl) (by kernel_rfl) (fun _ _ _ h => h) (Or.inl ⟨by rfl, ?_⟩) (by assumption) ?_
          rotate_left
          · intro w hSw; (try dsimp only at hSw); go_simp; try with_reducible rfl
          try simp only [Act.put, List.setIfInBounds_toArray, List.set_cons_zero, List.set_cons_succ]
          refine wpAnyH_ready (rs := [5]) (by kernel_rfl) (by simp) ?_
          refine AllReadyH.cons rfl (fun K hK => ?_) ?_
          · skip
            refine step_append_wide _ (by rfl) _ _ 80 (by rfl) (H + 3) 82 i0 _ 5 64 Try.underlying80 HI.out.1 HI.out.2.1 HI.out.2.2.1 HI.out.2.2.2 rfl (by decide) (.slice av k cv) k (flatK xs) (by rfl) ((HO3.out.alloc _).drew) ⟨P3.heap.size, 0, none⟩ 1 1 [.int .i64 0, .slice none 0 0, .slice none 0 0, .bool false, .bool false] (by rfl) (by rfl) (World.news_of_block (cs := #[.int .i64 0, .slice none 0 0, .slice none 0 0, .bool false, .bool false]) (t := 82) (fr := (0, 0)) (heap_alloc_new P3 _)) (by simp [Value.oneCell']) (by omega) (by unfold maxLen; omega) (by omega) (by simp; omega) ?_; intro g cap w1 hown1 hgrow hat hlt1; obtain ⟨⟨s0, s1, s2, s3, s4⟩, ff, gM, gZ, hM1, hZ1, hfin⟩ := HGO.out _ w1 g cap rfl hown1 hgrow hat hlt1; have ff0 := ff (k * 5); have ff1 := ff (k * 5 + 1); have ff2 := ff (k * 5 + 2); have ff3 := ff (k * 5 + 3); have ff4 := ff (k * 5 + 4); obtain ⟨⟨_, _, mc1, _, _⟩, mg⟩ := box5 hM1; have mg2 := mg 2; have HZ1 : Hid (w1.heap[Z]? = some (.cells #[.int .i64 zo, .slice za zn zc, .slice ka kn kc, .bool zm, .bool ze] 82)) := hZ1; have HSG : Hid (∀ (W : World) (i : Nat) (v : Value), W.heap[Z]? = some (.cells #[.int .i64 zo, .slice za zn zc, .slice ka kn kc, .bool zm, .bool ze] 82) → (W.setCell ⟨g, i, none⟩ v).heap[Z]? = some (.cells #[.int .i64 zo, .slice za zn zc, .slice ka kn kc, .bool zm, .bool ze] 82)) := (fun W i v hW => (Below.heap_setCell W _ v Z (fun e => gZ e.symm)).trans hW); have gM2 : M ≠ g := fun e => gM e.symm; have gZ2 : Z ≠ g := fun e => gZ e.symm; have HFI : Hid (MnAt B d t op ca cn cc kl H R M (k + 1) w ((((((w1.setCell ⟨g, k * 5, none⟩ (.int .i64 zo)).setCell ⟨g, k * 5 + 1, none⟩ (.slice za zn zc)).setCell ⟨g, k * 5 + 2, none⟩ (.slice ka kn kc)).setCell ⟨g, k * 5 + 3, none⟩ (.bool zm)).setCell ⟨g, k * 5 + 4, none⟩ (.bool ze)).setCell ⟨M, 2, none⟩ (.slice (some ⟨g, 0, none⟩) (k + 1) cap))) := hfin; rw [f5_comm _ _ _ _ _ _ _ gM] at hfin; have HFI2 : Hid (MnAt B d t op ca cn cc kl H R M (k + 1) w ((((((w1.setCell ⟨M, 2, none⟩ (.slice (some ⟨g, 0, none⟩) (k + 1) cap)).setCell ⟨g, k * 5, none⟩ (.int .i64 zo)).setCell ⟨g, k * 5 + 1, none⟩ (.slice za zn zc)).setCell ⟨g, k * 5 + 2, none⟩ (.slice ka kn kc)).setCell ⟨g, k * 5 + 3, none⟩ (.bool zm)).setCell ⟨g, k * 5 + 4, none⟩ (.bool ze))) := hfin; have HGM : Hid (g ≠ M) := gM; clear hM1 hZ1 hfin ff mg hown1 hgrow hat hlt1
            refine hK.out _ _ ?_ (fun hHeld => ?_)
            · (refine HZS.out _ ?_; repeat (first | with_reducible exact HZ3.out | with_reducible exact HZ1.out | with_reducible exact HAL.out _ | with_reducible refine HDR.out _ ?_ | with_reducible refine HSG.out _ _ _ ?_ | with_reducible refine HSM.out _ _ _ ?_))
            clear hK K
            try simp only [Act.put, List.setIfInBounds_toArray, List.set_cons_zero, List.set_cons_succ]
            refine wpAnyH_take (i := 6) (v := ?_) rfl (by kernel_rfl) (by kernel_rfl) (by kernel_rfl) (fun _ _ _ h => h) (Or.inl ⟨by rfl, ?_⟩) (by assumption) ?_
            rotate_left
            · intro w hSw; (try dsimp only at hSw); go_simp; try with_reducible rfl
            try simp only [Act.put, List.setIfInBounds_toArray, List.set_cons_zero, List.set_cons_succ]
            refine wpAnyH_take (i := 8) (v := ?_) rfl (by kernel_rfl) (by kernel_rfl) (by kernel_rfl) (fun _ _ _ h => h) (Or.inl ⟨by rfl, ?_⟩) (by assumption) ?_
            rotate_left
            · intro w hSw; (try dsimp only at hSw); go_simp; try with_reducible rfl
            try simp only [Act.put, List.setIfInBounds_toArray, List.set_cons_zero, List.set_cons_succ]
            refine wpAnyH_ready (rs := [7, 9]) (by kernel_rfl) (by simp) ?_
            refine AllReadyH.cons rfl (fun K hK => ?_) ?_
            · skip
              go_simp
              refine hK.out _ _ ?_ (fun hHeld => ?_)
              · (refine HZS.out _ ?_; repeat (first | with_reducible exact HZ3.out | with_reducible exact HZ1.out | with_reducible exact HAL.out _ | with_reducible refine HDR.out _ ?_ | with_reducible refine HSG.out _ _ _ ?_ | with_reducible refine HSM.out _ _ _ ?_))
              clear hK K
              try simp only [Act.put, List.setIfInBounds_toArray, List.set_cons_zero, List.set_cons_succ]
              refine wpAnyH_ready (rs := [9]) (by kernel_rfl) (by simp) ?_
              refine AllReadyH.cons rfl (fun K hK => ?_) ?_
              · skip
                go_simp
                refine hK.out _ _ ?_ (fun hHeld => ?_)
                · (refine HZS.out _ ?_; repeat (first | with_reducible exact HZ3.out | with_reducible exact HZ1.out | with_reducible exact HAL.out _ | with_reducible refine HDR.out _ ?_ | with_reducible refine HSG.out _ _ _ ?_ | with_reducible refine HSM.out _ _ _ ?_))
                clear hK K
                try simp only [Act.put, List.setIfInBounds_toArray, List.set_cons_zero, List.set_cons_succ]
                refine wpAnyH_done (by kernel_rfl) ?_ _
                refine NoPanic.normal ?_
                go_wp2
                go_roundw
                case rel =>
                  refine ⟨k + 1, by omega, by go_num, ?_⟩
                  first | (with_reducible exact HFI.out) | (with_reducible exact HFI2.out)
                case measure => simp [intOf]; omega
              exact AllReadyH.nil
            refine AllReadyH.cons rfl (fun K hK => ?_) ?_
            · skip
              go_simp
              refine hK.out _ _ ?_ (fun hHeld => ?_)
              · (refine HZS.out _ ?_; repeat (first | with_reducible exact HZ3.out | with_reducible exact HZ1.out | with_reducible exact HAL.out _ | with_reducible refine HDR.out _ ?_ | with_reducible refine HSG.out _ _ _ ?_ | with_reducible refine HSM.out _ _ _ ?_))
              clear hK K
              try simp only [Act.put, List.setIfInBounds_toArray, List.set_cons_zero, List.set_cons_succ]
              refine wpAnyH_ready (rs := [7]) (by kernel_rfl) (by simp) ?_
              refine AllReadyH.cons rfl (fun K hK => ?_) ?_
              · skip
                go_simp
                refine hK.out _ _ ?_ (fun hHeld => ?_)
                · (refine HZS.out _ ?_; repeat (first | with_reducible exact HZ3.out | with_reducible exact HZ1.out | with_reducible exact HAL.out _ | with_reducible refine HDR.out _ ?_ | with_reducible refine HSG.out _ _ _ ?_ | with_reducible refine HSM.out _ _ _ ?_))
                clear hK K
                try simp only [Act.put, List.setIfInBounds_toArray, List.set_cons_zero, List.set_cons_succ]
                refine wpAnyH_done (by kernel_rfl) ?_ _
                refine NoPanic.normal ?_
                go_wp2
                go_roundw
                case rel =>
                  refine ⟨k + 1, by omega, by go_num, ?_⟩
                  first | (with_reducible exact HFI.out) | (with_reducible exact HFI2.out)
                case measure => simp [intOf]; omega
              exact AllReadyH.nil
            exact AllReadyH.nil
          exact AllReadyH.nil
        exact AllReadyH.nil
      exact AllReadyH.nil
    · obtain rfl : k = L := by omega
      obtain ⟨pv, xs, fps, m1, m2, m3, m4, m5, m6, m7⟩ := HAT.out
      obtain ⟨av, cv, rfl⟩ := own_sl1 m3
      have HM : Hid (wr.heap[M]? = some (.cells #[.int .i64 op, .slice ca cn cc, .slice av k cv, .bool false, .bool false] 82) ∧ wr.heap[R]? = some (.cells #[.int .i64 0, .slice none 0 0, .slice none 0 0, .bool false, .bool false] 82) ∧ wr.ownsRow (H + 3) 82 5 (.slice av k cv) k (flatK xs) ∧ xs.length = k ∧ Below H w wr ∧ H + 3 ≤ wr.heap.size) := ⟨m1, m2, m3, m4, m5, m6⟩
      have HEN : Hid (∀ (wt : World) (ys : List Mk) (fq : Nat → Nat → Prop), ys.length = k → wt.ownsRow (H + 3) 82 5 (.slice av k cv) k (flatK ys) → Below H w wt → H + 3 ≤ wt.heap.size →
          (∀ i (hi : i < ys.length) (hl : i < (revL t kl).length), (∀ y, fq i y → H + 3 ≤ y ∧ y < wt.heap.size ∧ (Value.slice av k cv).ownBlock ≠ some y) ∧ (∀ j, j < i → ∀ y, fq i y → ¬ fq j y) ∧ NdV B wt d ((revL t kl)[i].nrm t) [] ys[i].vals (fq i)) →
          RdK wt av k (ys.map Mk.em) ∧ ∀ w2, Below wt.heap.size wt w2 → ∀ q, q = empF op (ys.map Mk.em) → MnPost B (d + 1) t n w (.returned (.tuple #[.agg #[.int .i64 op, .slice ca cn cc, .slice av k cv, .bool q, .bool false], .bool true])) (F5 (w2.setCell ⟨M, 3, none⟩ (.bool q)) R 0 ⟨op, ca, cn, cc, av, k, cv, q, false⟩)) := by
        intro wt ys fq h1 h2 h3 h4 h5
        exact mn_tail HRM.out.1 HRM.out.2.1 HRM.out.2.2 (by have := HX.out.2.2.2.1; have := HRM.out.2.2; omega) HX.out.1 HX.out.2.1 HX.out.2.2.1 HIN.out (by rw [← HKL.out.1]) (by rw [revL_len]; exact HKL.out.2.1.symm) h1 h2 h3 h4 h5
      have HM7 : Hid (∀ i (hi : i < xs.length) (hl : i < kl.length), (∀ y, fps i y → H + 3 ≤ y ∧ y < wr.heap.size ∧ (Value.slice av k cv).ownBlock ≠ some y) ∧ (∀ j, j < i → ∀ y, fps i y → ¬ fps j y) ∧ NdV B wr d (kl[i].nrm t) [] xs[i].vals (fps i)) := m7
      have HKK : Hid (k = kl.length) := HKL.out.2.1
      have HB3 : Hid (R = H + 1 ∧ M = H + 2 ∧ B ≤ H) := ⟨HRM.out.1, HRM.out.2.1, by have := HX.out.2.2.2.1; have := HRM.out.2.2; omega⟩
      have hRM : R ≠ M := by have := HRM.out; omega
      obtain ⟨⟨r0, r1, r2, r3, r4⟩, rf⟩ := box5 m2
      obtain ⟨⟨q0, q1, q2, q3, q4⟩, qf⟩ := box5 m1
      clear m1 m2 m3 m4 m5 m6 m7 HAT HIN HPC HKL HX HRM HI r0 r1 r2 r3 r4 rf qf q0 q1 q3 q4
      -- behind fitsEmpty
      have HLAST : Hid (∀ (wt : World) (ys : List Mk), wt.heap[M]? = some (.cells #[.int .i64 op, .slice ca cn cc, .slice av k cv, .bool false, .bool false] 82) → wt.heap[R]? = some (.cells #[.int .i64 0, .slice none 0 0, .slice none 0 0, .bool false, .bool false] 82) → RdK wt av k (ys.map Mk.em) →
          Calls Try.prog 87 #[.pointer (some ⟨M, 0, none⟩)] wt fun e w' => e = .returned (.bool (empF op (ys.map Mk.em))) ∧ Below wt.heap.size wt w' ∧ w'.heap[M]? = some (.cells #[.int .i64 op, .slice ca cn cc, .slice av k cv, .bool false, .bool false] 82) ∧ w'.heap[R]? = some (.cells #[.int .i64 0, .slice none 0 0, .slice none 0 0, .bool false, .bool false] 82)) := by
        intro wt ys h1 h2 h3
        obtain ⟨⟨s0, _, s2, _, _⟩, _⟩ := box5 h1
        refine (fitsEmpty_any op M 0 av k cv (ys.map Mk.em) wt s0 (by simpa using s2) h3 (by omega)).mono ?_
        rintro e w' ⟨rfl, hb⟩
        exact ⟨rfl, hb, (hb.block M (Array.getElem?_eq_some_iff.1 h1).1).trans h1, (hb.block R (Array.getElem?_eq_some_iff.1 h2).1).trans h2⟩
      cases t with
      | false =>
        obtain ⟨hrk, hpost⟩ := HEN.out wr xs fps HM.out.2.2.2.1 HM.out.2.2.1 HM.out.2.2.2.2.1 HM.out.2.2.2.2.2 HM7.out
        have HC : Hid (Calls Try.prog 87 #[.pointer (some ⟨M, 0, none⟩)] wr fun e w' => e = .returned (.bool (empF op (xs.map Mk.em))) ∧ Below wr.heap.size wr w' ∧ w'.heap[M]? = some (.cells #[.int .i64 op, .slice ca cn cc, .slice av k cv, .bool false, .bool false] 82) ∧ w'.heap[R]? = some (.cells #[.int .i64 0, .slice none 0 0, .slice none 0 0, .bool false, .bool false] 82)) := HLAST.out wr xs HM.out.1 HM.out.2.1 hrk
        have HPO : Hid (∀ w2, Below wr.heap.size wr w2 → ∀ q, q = empF op (xs.map Mk.em) → MnPost B (d + 1) false n w (.returned (.tuple #[.agg #[.int .i64 op, .slice ca cn cc, .slice av k cv, .bool q, .bool false], .bool true])) (F5 (w2.setCell ⟨M, 3, none⟩ (.bool q)) R 0 ⟨op, ca, cn, cc, av, k, cv, q, false⟩)) := hpost
        obtain ⟨q, hq⟩ : ∃ q, q = empF op (xs.map Mk.em) := ⟨_, rfl⟩
        have HQ : Hid (q = empF op (xs.map Mk.em)) := hq
        rw [← hq] at HC
        clear hrk hpost hq HEN HLAST HM7 HM q2
        go_wp2_with fail
        refine HC.out.mono ?_
        rintro e w2 ⟨rfl, hb2, h1, h2⟩
        have HFIN : Hid (MnPost B (d + 1) false n w (.returned (.tuple #[.agg #[.int .i64 op, .slice ca cn cc, .slice av k cv, .bool q, .bool false], .bool true])) (F5 (w2.setCell ⟨M, 3, none⟩ (.bool q)) R 0 ⟨op, ca, cn, cc, av, k, cv, q, false⟩)) := HPO.out w2 hb2 q HQ.out
        obtain ⟨⟨s0, s1, s2, s3, s4⟩, sf⟩ := box5 h1
        obtain ⟨⟨u0, u1, u2, u3, u4⟩, uf⟩ := box5 h2
        have sf3 := sf 3
        have uf0 := uf 0
        have uf1 := uf 1
        have uf2 := uf 2
        have uf3 := uf 3
        have uf4 := uf 4
        clear hb2 h1 h2 sf uf HPO HQ HC
        go_wp2
        refine bodyPost_ret (v := .tuple #[.agg #[.int .i64 op, .slice ca cn cc, .slice av k cv, .bool q, .bool false], .bool true]) ?_ rfl HFIN.out
        rw [results_cell_tmp rfl]
        go_simp
      | true =>
        have HRV : Hid (Calls Try.prog 86 #[.slice av k cv] wr fun e w' => e = .returned (.tuple #[]) ∧ wr.grownBy w' (Value.slice av k cv).ownBlock ∧ w'.ownsRow (H + 3) 82 5 (.slice av k cv) k (flatK xs.reverse)) := by
          have h1 := HM.out.2.2.1
          have h2 := HM.out.2.2.2.1
          rw [← h2] at h1
          have := revK_any xs (.slice av xs.length cv) (H + 3) wr h1 (by omega)
          rw [h2] at this
          exact this
        go_wp2_with fail
        refine HRV.out.mono ?_
        rintro e wt ⟨rfl, hgr, hown⟩
        have hold : ∀ y, (Value.slice av k cv).ownBlock = some y → H + 3 ≤ y ∧ y < wr.heap.size := HM.out.2.2.1.lt
        have hs6 := HM.out.2.2.2.2.2
        have hRM3 := HB3.out
        have hM1 : wt.heap[M]? = some (.cells #[.int .i64 op, .slice ca cn cc, .slice av k cv, .bool false, .bool false] 82) := (hgr.block M (by omega) (fun e => by have := hold M e.symm; omega)).trans HM.out.1
        have hR1 : wt.heap[R]? = some (.cells #[.int .i64 0, .slice none 0 0, .slice none 0 0, .bool false, .bool false] 82) := (hgr.block R (by omega) (fun e => by have := hold R e.symm; omega)).trans HM.out.2.1
        obtain ⟨hrk, hpost⟩ := HEN.out wt xs.reverse (fun i => fps (k - 1 - i)) (by rw [List.length_reverse]; exact HM.out.2.2.2.1) hown (HM.out.2.2.2.2.1.grown hgr (by omega) (fun y hy => by have := hold y hy; omega)) (by have := hgr.size; omega) (by
          intro i hi hl
          have hxl := HM.out.2.2.2.1
          have hkk := HKK.out
          rw [List.length_reverse] at hi
          obtain ⟨p1, p2, p3⟩ := HM7.out (k - 1 - i) (by omega) (by omega)
          refine ⟨fun y hy => ?_, fun j hj y hy hy2 => ?_, ?_⟩
          · have h1 := p1 y hy
            have := hgr.size
            exact ⟨h1.1, by omega, h1.2.2⟩
          · exact (HM7.out (k - 1 - j) (by omega) (by omega)).2.1 (k - 1 - i) (by omega) y hy2 hy
          · have e1 : (revL true kl)[i]'hl = kl[k - 1 - i]'(by omega) := rev_nd kl k i hkk hl (by omega)
            have e2 : xs.reverse[i]'(by rw [List.length_reverse]; exact hi) = xs[k - 1 - i]'(by omega) := rev_mk xs k i hxl.symm (by rw [List.length_reverse]; exact hi) (by omega)
            rw [e1, e2]
            refine p3.frame d (fun y hy hf => hgr.block y hy (fun e => ?_))
            rcases hf with hf | hf
            · exact (p1 y hf).2.2 e.symm
            · have := hold y e.symm; omega)
        have HC : Hid (Calls Try.prog 87 #[.pointer (some ⟨M, 0, none⟩)] wt fun e w' => e = .returned (.bool (empF op (xs.reverse.map Mk.em))) ∧ Below wt.heap.size wt w' ∧ w'.heap[M]? = some (.cells #[.int .i64 op, .slice ca cn cc, .slice av k cv, .bool false, .bool false] 82) ∧ w'.heap[R]? = some (.cells #[.int .i64 0, .slice none 0 0, .slice none 0 0, .bool false, .bool false] 82)) := HLAST.out wt xs.reverse hM1 hR1 hrk
        have HPO : Hid (∀ w2, Below wt.heap.size wt w2 → ∀ q, q = empF op (xs.reverse.map Mk.em) → MnPost B (d + 1) true n w (.returned (.tuple #[.agg #[.int .i64 op, .slice ca cn cc, .slice av k cv, .bool q, .bool false], .bool true])) (F5 (w2.setCell ⟨M, 3, none⟩ (.bool q)) R 0 ⟨op, ca, cn, cc, av, k, cv, q, false⟩)) := hpost
        obtain ⟨q, hq⟩ : ∃ q, q = empF op (xs.reverse.map Mk.em) := ⟨_, rfl⟩
        have HQ : Hid (q = empF op (xs.reverse.map Mk.em)) := hq
        rw [← hq] at HC
        clear hrk hpost hq HEN HLAST HM7 HM q2 hgr hown hold hs6 hRM3 hM1 hR1 HRV
        go_wp2_with fail
        refine HC.out.mono ?_
        rintro e w2 ⟨rfl, hb2, h1, h2⟩
        have HFIN : Hid (MnPost B (d + 1) true n w (.returned (.tuple #[.agg #[.int .i64 op, .slice ca cn cc, .slice av k cv, .bool q, .bool false], .bool true])) (F5 (w2.setCell ⟨M, 3, none⟩ (.bool q)) R 0 ⟨op, ca, cn, cc, av, k, cv, q, false⟩)) := HPO.out w2 hb2 q HQ.out
        obtain ⟨⟨s0, s1, s2, s3, s4⟩, sf⟩ := box5 h1
        obtain ⟨⟨u0, u1, u2, u3, u4⟩, uf⟩ := box5 h2
        have sf3 := sf 3
        have uf0 := uf 0
        have uf1 := uf 1
        have uf2 := uf 2
        have uf3 := uf 3
        have uf4 := uf 4
        clear hb2 h1 h2 sf uf HPO HQ HC
        go_wp2
        refine bodyPost_ret (v := .tuple #[.agg #[.int .i64 op, .slice ca cn cc, .slice av k cv, .bool q, .bool false], .bool true]) ?_ rfl HFIN.out
        rw [results_cell_tmp rfl]
        go_simp
theorem mn_any (B : Nat) (t : Bool) : (d : Nat) → MnC B d t
  | 0 => fun _ _ _ _ _ _ _ hn => hn.elim
  | d + 1 => mn_up B d t (mn_any B t d)
end Go.Proofs.Ytjbhfonokgkalaa
