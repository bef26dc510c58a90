/- The walk of FrameLimits. -/
import Derived.Test.YtohkdlgckepfgaaFrU
namespace Go.Proofs.Ytohkdlgckepfgaa
open Go.RowKit
set_option linter.unusedVariables false
set_option linter.unusedSimpArgs false

def entE (n : Nat) : List (Int × Int) := (List.range n).map fun (i : Nat) => (65536 * (i : Int) / 2 + (i : Int), 1 + (i : Int))
def opE (n : Nat) : List Opn := (List.range n).map fun (i : Nat) => ⟨1 + (i : Int), (i : Int), 1 + (i : Int), true, 0, 0, 97⟩
theorem entE_next (n : Nat) : flatE (entE (n + 1)) = flatE (entE n) ++ [.int .i64 (65536 * (n : Int) / 2 + (n : Int)), .int .i64 (1 + (n : Int))] := by
  simp [entE, List.range_succ, flatE, encE]
theorem opE_next (n : Nat) : flatP (opE (n + 1)) = flatP (opE n) ++ [.int .i64 (1 + (n : Int)), .int .i64 (n : Int), .int .i64 (1 + (n : Int)), .bool true, .int .i64 0, .int .i64 0, .int .i32 97] := by
  simp [opE, List.range_succ, flatP, encP]
theorem entE_all : ∀ n : Fin 71, vcB (-1) (entE n.val) = true := by decide +kernel
theorem opE_all : ∀ n : Fin 71, (opE n.val).all opB = true := by decide +kernel
theorem entE_len (n : Nat) : (entE n).length = n := by simp [entE]
theorem opE_len (n : Nat) : (opE n).length = n := by simp [opE]
def limF (kd fr nx : Int) (N M : Nat) : Frm := ⟨kd, fr, entE N, opE M, nx⟩
theorem lim_right (kd fr nx : Int) (N M : Nat) (hN : N < 71) (hM : M < 71) : frB (limF kd fr nx N M) = (decide (0 ≤ fr) && decide (fr < 64) && rpN kd N M nx) := by
  have e1 : vcB (-1) (entE N) = true := entE_all ⟨N, hN⟩
  have e2 : (opE M).all opB = true := opE_all ⟨M, hM⟩
  have e3 : rpB (limF kd fr nx N M) = rpN kd N M nx := by
    unfold rpB rpN limF
    rw [entE_len, opE_len]
  show (decide (0 ≤ fr) && decide (fr < 64) && rpB (limF kd fr nx N M) && vcB (-1) (entE N) && (opE M).all opB) = _
  rw [e1, e2, e3, Bool.and_true, Bool.and_true]
set_option maxRecDepth 100000 in
set_option maxHeartbeats 8000000 in
theorem frameLimits_walk (kd fr en op nx : Int) (w : World) (l0 : -9223372036854775808 ≤ kd) (h0 : kd ≤ 9223372036854775807) (l1 : -9223372036854775808 ≤ fr) (h1 : fr ≤ 9223372036854775807) (l2 : -9223372036854775808 ≤ en) (h2 : en ≤ 9223372036854775807) (l3 : -9223372036854775808 ≤ op) (h3 : op ≤ 9223372036854775807) (l4 : -9223372036854775808 ≤ nx) (h4 : nx ≤ 9223372036854775807) :
    Calls Try.prog 7 #[.int .i64 kd, .int .i64 fr, .int .i64 en, .int .i64 op, .int .i64 nx] w fun e w' => e = .returned (.bool true) ∧ Below w.heap.size w w' := by
  obtain ⟨i0, hi, hz0, hz1, hz2⟩ := info_parts infoE15
  obtain ⟨j0, ji, jz0, jz1, jz2⟩ := info_parts infoP15
  obtain ⟨r, hr⟩ : ∃ r : Nat, bits .and .i64 en 65535 = (r : Int) := ⟨(en % 2 ^ 16).toNat, by rw [and_low en 65535 16 (by omega) (by decide)]; omega⟩
  obtain ⟨s, hs⟩ : ∃ s : Nat, bits .and .i64 op 65535 = (s : Int) := ⟨(op % 2 ^ 16).toNat, by rw [and_low op 65535 16 (by omega) (by decide)]; omega⟩
  obtain ⟨N, hN⟩ : ∃ N, N = r % 71 := ⟨_, rfl⟩
  obtain ⟨M, hM⟩ : ∃ M, M = s % 71 := ⟨_, rfl⟩
  have hN7 : N < 71 := by omega
  have hM7 : M < 71 := by omega
  have q1 : (r : Int).tmod 71 = (N : Int) := by rw [Int.tmod_eq_emod_of_nonneg (by omega)]; omega
  have q2 : (r : Int) % 71 = (N : Int) := by omega
  have q3 : (s : Int).tmod 71 = (M : Int) := by rw [Int.tmod_eq_emod_of_nonneg (by omega)]; omega
  have q4 : (s : Int) % 71 = (M : Int) := by omega
  clear hN hM l0 h0 l1 h1 l2 h2 l3 h3 l4 h4
  go_enter Try.func7, Try.ntmps7
  go_upto_region 5 with (go_at_call 11; refine (shown15_any _).mono ?_; rintro e w2 ⟨rfl, hb⟩; have HB2 : Hid (Below w.heap.size w w2) := hb; clear hb)
  clear hr hs q1 q2 q3 q4
  obtain ⟨W3, hW3⟩ : ∃ W3, W3 = w2.alloc (.cells #[.int .i64 kd, .int .i64 fr, .slice none 0 0, .slice none 0 0, .int .i64 nx] 25) := ⟨_, rfl⟩
  have HB3 : Hid (Below w.heap.size w W3) := by show Below _ _ _; rw [hW3]; exact HB2.out.alloc HB2.out.size _
  have hg3 : W3.heap[w2.heap.size]? = some (.cells #[.int .i64 kd, .int .i64 fr, .slice none 0 0, .slice none 0 0, .int .i64 nx] 25) := by rw [hW3]; exact heap_alloc_new w2 _
  have HGS : Hid (W3.heap.size = w2.heap.size + 1 ∧ w.heap.size ≤ w2.heap.size) := ⟨by rw [hW3]; simp, HB2.out.size⟩
  obtain ⟨G, hG⟩ : ∃ G, G = w2.heap.size := ⟨_, rfl⟩
  have HGE : Hid (G = w2.heap.size) := hG
  rw [← hG] at hg3
  have HG3 : Hid (W3.heap[G]? = some (.cells #[.int .i64 kd, .int .i64 fr, .slice none 0 0, .slice none 0 0, .int .i64 nx] 25)) := hg3
  simp only [← hW3, ← HGE.out]
  clear hW3 hG hg3
  go_wp2
  go_loopw [13] (fun x13 wr => ∃ (i : Nat) (va : Option Addr) (c : Nat), x13 = .int .i64 (i : Int) ∧ i ≤ N ∧ wr.heap[G]? = some (.cells #[.int .i64 kd, .int .i64 fr, .slice va i c, .slice none 0 0, .int .i64 nx] 25) ∧ wr.ownsRow W3.heap.size 47 2 (.slice va i c) i (flatE (entE i)) ∧ Chg W3 wr (fun k => k = G)) (fun x13 _ => N - (RowKit.intOf x13).toNat)
  case atStart => exact ⟨0, none, 0, rfl, by omega, HG3.out, World.ownsRow_nil _ _ _ _, cg_refl _ _⟩
  case round =>
    obtain ⟨i, va, c, hx, hin, hg, ho, hc⟩ := hrel
    subst hx
    have HG : Hid (wr.heap[G]? = some (.cells #[.int .i64 kd, .int .i64 fr, .slice va i c, .slice none 0 0, .int .i64 nx] 25)) := hg
    have HO : Hid (wr.ownsRow W3.heap.size 47 2 (.slice va i c) i (flatE (entE i))) := ho
    have HC : Hid (Chg W3 wr (fun k => k = G)) := hc
    obtain ⟨⟨x0, x1, x2, x3, x4⟩, z0, z1, z2, z3, z4⟩ := cells5 hg
    clear hg ho hc
    by_cases hlt : i < N
    · have HOA : Hid ((wr.alloc (.cells #[.int .i64 (65536 * (i : Int) / 2 + (i : Int)), .int .i64 (1 + (i : Int))] 47)).ownsRow W3.heap.size 47 2 (.slice va i c) i (flatE (entE i))) := HO.out.alloc _
      have HZ : Hid (W3.heap.size ≤ (wr.alloc (.cells #[.int .i64 (65536 * (i : Int) / 2 + (i : Int)), .int .i64 (1 + (i : Int))] 47)).heap.size) := Nat.le_trans HC.out.2.2.2.1 (by simp)
      go_upto_region 7 with (at_builtin
                             refine wpList_append_lies _ rfl (.tmp 35) (.tmp 44) 22 rfl W3.heap.size 47 i0 (.agg #[.int .i64 0, .int .i64 0]) 2 16 Try.underlying22 hi hz0 hz1 hz2 rfl (by decide) _ _ _ rfl HOA.out ⟨wr.heap.size, 0, none⟩ 1 1 [.int .i64 (65536 * (i : Int) / 2 + (i : Int)), .int .i64 (1 + (i : Int))] rfl rfl (news_pre (heap_alloc_new _ _) rfl) (by simp [Value.oneCell']) (by decide) (by unfold maxLen; omega) (by omega) HZ.out _ rfl ?_
                             intro g cap w4 r1 r2 r3 _
                             have hcg : Chg W3 w4 (fun k => k = G) := cg_trans (cg_alloc HC.out _) (cg_gb r2) (fun j hj h => by have h9 := (HOA.out.lt j h).1; omega)
                             have hg4 : w4.heap[G]? = some (.cells #[.int .i64 kd, .int .i64 fr, .slice va i c, .slice none 0 0, .int .i64 nx] 25) := by
                               have hga : (wr.alloc (.cells #[.int .i64 (65536 * (i : Int) / 2 + (i : Int)), .int .i64 (1 + (i : Int))] 47)).heap[G]? = _ := (((Below.refl _ wr).alloc (Nat.le_refl _) _).block G (Array.getElem?_eq_some_iff.1 HG.out).1).trans HG.out
                               exact cg_heap (cg_gb r2) hga (fun h => by have h9 := (HOA.out.lt G h).1; have := HGS.out; have := HGE.out; omega)
                             have HCG : Hid (Chg W3 w4 (fun k => k = G)) := hcg
                             have HG4 : Hid (w4.heap[G]? = some (.cells #[.int .i64 kd, .int .i64 fr, .slice va i c, .slice none 0 0, .int .i64 nx] 25)) := hg4
                             have HO4 : Hid (w4.ownsRow W3.heap.size 47 2 (.slice (some ⟨g, 0, none⟩) (i + 1) cap) (i + 1) (flatE (entE (i + 1)))) := by
                               show World.ownsRow _ _ _ _ _ _ _
                               rw [entE_next]
                               exact r1
                             clear x0 x1 x2 x3 x4 z0 z1 z2 z3 z4
                             obtain ⟨⟨x0, x1, x2, x3, x4⟩, z0, z1, z2, z3, z4⟩ := cells5 hg4
                             clear hcg hg4 r1 r2 r3)
      have HNX : Hid (∀ W, W = w4.setCell ⟨G, 2, none⟩ (.slice (some ⟨g, 0, none⟩) (i + 1) cap) → W.heap[G]? = some (.cells #[.int .i64 kd, .int .i64 fr, .slice (some ⟨g, 0, none⟩) (i + 1) cap, .slice none 0 0, .int .i64 nx] 25) ∧ W.ownsRow W3.heap.size 47 2 (.slice (some ⟨g, 0, none⟩) (i + 1) cap) (i + 1) (flatE (entE (i + 1))) ∧ Chg W3 W (fun k => k = G)) := by
        rintro W rfl
        refine ⟨(heap_setX w4 G 2 _ _ _ _ HG4.out).trans (by rfl), cg_own (cg_set w4 G 2 _) HO4.out (fun j hj e => by have h9 := (HO4.out.lt j hj).1; have := HGS.out; have := HGE.out; omega), cg_trans HCG.out (cg_set w4 G 2 _) (fun _ _ h => h)⟩
      clear HG4 HO4 HCG HOA HZ HO HC HG
      go_wp2
      go_roundw
      case rel => exact ⟨i + 1, _, _, by go_num, by omega, HNX.out _ rfl⟩
      case measure => simp [RowKit.intOf]; omega
    · obtain rfl : i = N := by omega
      clear x0 x1 x2 x3 x4 z0 z1 z2 z3 z4
      obtain ⟨B0, hB0⟩ : ∃ B0, B0 = wr.heap.size := ⟨_, rfl⟩
      have HEB : Hid (∀ j, (Value.slice va i c).ownBlock = some j → j < B0) := fun j hj => by have := (HO.out.lt j hj).2; omega
      have HB0 : Hid (W3.heap.size ≤ B0) := by show _ ≤ _; rw [hB0]; exact HC.out.2.2.2.1
      have HST : Hid (wr.ownsRow B0 51 7 (.slice none 0 0) 0 (flatP (opE 0)) ∧ B0 ≤ wr.heap.size) := ⟨World.ownsRow_nil _ _ _ _, by omega⟩
      clear hB0
      go_wp2
      go_loopw [14] (fun x14 wr2 => ∃ (k : Nat) (oa : Option Addr) (oc : Nat), x14 = .int .i64 (k : Int) ∧ k ≤ M ∧ wr2.heap[G]? = some (.cells #[.int .i64 kd, .int .i64 fr, .slice va i c, .slice oa k oc, .int .i64 nx] 25) ∧ wr2.ownsRow W3.heap.size 47 2 (.slice va i c) i (flatE (entE i)) ∧ wr2.ownsRow B0 51 7 (.slice oa k oc) k (flatP (opE k)) ∧ Chg W3 wr2 (fun k => k = G) ∧ B0 ≤ wr2.heap.size) (fun x14 _ => M - (RowKit.intOf x14).toNat)
      case atStart => exact ⟨0, none, 0, rfl, by omega, HG.out, HO.out, HST.out.1, HC.out, HST.out.2⟩
      case round =>
        clear HG HO HC HST
        obtain ⟨k, oa, oc, hx, hkm, hg, ho, hop, hc, hbz⟩ := hrel
        subst hx
        have HG : Hid (wr.heap[G]? = some (.cells #[.int .i64 kd, .int .i64 fr, .slice va i c, .slice oa k oc, .int .i64 nx] 25)) := hg
        have HO : Hid (wr.ownsRow W3.heap.size 47 2 (.slice va i c) i (flatE (entE i))) := ho
        have HP : Hid (wr.ownsRow B0 51 7 (.slice oa k oc) k (flatP (opE k))) := hop
        have HC : Hid (Chg W3 wr (fun k => k = G)) := hc
        have HBZ : Hid (B0 ≤ wr.heap.size) := hbz
        obtain ⟨⟨x0, x1, x2, x3, x4⟩, z0, z1, z2, z3, z4⟩ := cells5 hg
        clear hg ho hop hc hbz
        by_cases hlt : k < M
        · have HPA : Hid ((wr.alloc (.cells #[.int .i64 (1 + (k : Int)), .int .i64 (k : Int), .int .i64 (1 + (k : Int)), .bool true, .int .i64 0, .int .i64 0, .int .i32 97] 51)).ownsRow B0 51 7 (.slice oa k oc) k (flatP (opE k))) := HP.out.alloc _
          have HEA : Hid ((wr.alloc (.cells #[.int .i64 (1 + (k : Int)), .int .i64 (k : Int), .int .i64 (1 + (k : Int)), .bool true, .int .i64 0, .int .i64 0, .int .i32 97] 51)).ownsRow W3.heap.size 47 2 (.slice va i c) i (flatE (entE i))) := HO.out.alloc _
          have HZ : Hid (B0 ≤ (wr.alloc (.cells #[.int .i64 (1 + (k : Int)), .int .i64 (k : Int), .int .i64 (1 + (k : Int)), .bool true, .int .i64 0, .int .i64 0, .int .i32 97] 51)).heap.size) := Nat.le_trans HBZ.out (by simp)
          go_upto_region 11 with (at_builtin
                                  refine wpList_append_lies _ rfl (.tmp 53) (.tmp 61) 23 rfl B0 51 j0 op0.val 7 56 Try.underlying23 ji jz0 jz1 jz2 rfl (by decide) _ _ _ rfl HPA.out ⟨wr.heap.size, 0, none⟩ 1 1 [.int .i64 (1 + (k : Int)), .int .i64 (k : Int), .int .i64 (1 + (k : Int)), .bool true, .int .i64 0, .int .i64 0, .int .i32 97] rfl rfl (news_pre (heap_alloc_new _ _) rfl) (by simp [Value.oneCell']) (by decide) (by unfold maxLen; omega) (by omega) HZ.out _ rfl ?_
                                  intro g cap w4 r1 r2 r3 _
                                  have hcg : Chg W3 w4 (fun k => k = G) := cg_trans (cg_alloc HC.out _) (cg_gb r2) (fun j hj h => by have h9 := (HPA.out.lt j h).1; have := HB0.out; omega)
                                  have hg4 : w4.heap[G]? = some (.cells #[.int .i64 kd, .int .i64 fr, .slice va i c, .slice oa k oc, .int .i64 nx] 25) := by
                                    have hga : (wr.alloc (.cells #[.int .i64 (1 + (k : Int)), .int .i64 (k : Int), .int .i64 (1 + (k : Int)), .bool true, .int .i64 0, .int .i64 0, .int .i32 97] 51)).heap[G]? = _ := (((Below.refl _ wr).alloc (Nat.le_refl _) _).block G (Array.getElem?_eq_some_iff.1 HG.out).1).trans HG.out
                                    exact cg_heap (cg_gb r2) hga (fun h => by have h9 := (HPA.out.lt G h).1; have := HB0.out; have := HGS.out; have := HGE.out; omega)
                                  have HCG : Hid (Chg W3 w4 (fun k => k = G)) := hcg
                                  have HG4 : Hid (w4.heap[G]? = some (.cells #[.int .i64 kd, .int .i64 fr, .slice va i c, .slice oa k oc, .int .i64 nx] 25)) := hg4
                                  have HE4 : Hid (w4.ownsRow W3.heap.size 47 2 (.slice va i c) i (flatE (entE i))) := cg_own (cg_gb r2) HEA.out (fun j hj h => by have h8 := (HPA.out.lt j h).1; have h9 := HEB.out j hj; omega)
                                  have HO4 : Hid (w4.ownsRow B0 51 7 (.slice (some ⟨g, 0, none⟩) (k + 1) cap) (k + 1) (flatP (opE (k + 1)))) := by
                                    show World.ownsRow _ _ _ _ _ _ _
                                    rw [opE_next]
                                    exact r1
                                  have HZ4 : Hid (B0 ≤ w4.heap.size) := Nat.le_trans HZ.out r2.size
                                  clear x0 x1 x2 x3 x4 z0 z1 z2 z3 z4
                                  obtain ⟨⟨x0, x1, x2, x3, x4⟩, z0, z1, z2, z3, z4⟩ := cells5 hg4
                                  clear hcg hg4 r1 r2 r3)
          have HNX : Hid (∀ W, W = w4.setCell ⟨G, 3, none⟩ (.slice (some ⟨g, 0, none⟩) (k + 1) cap) → W.heap[G]? = some (.cells #[.int .i64 kd, .int .i64 fr, .slice va i c, .slice (some ⟨g, 0, none⟩) (k + 1) cap, .int .i64 nx] 25) ∧ W.ownsRow W3.heap.size 47 2 (.slice va i c) i (flatE (entE i)) ∧ W.ownsRow B0 51 7 (.slice (some ⟨g, 0, none⟩) (k + 1) cap) (k + 1) (flatP (opE (k + 1))) ∧ Chg W3 W (fun k => k = G) ∧ B0 ≤ W.heap.size) := by
            rintro W rfl
            exact ⟨(heap_setX w4 G 3 _ _ _ _ HG4.out).trans (by rfl), cg_own (cg_set w4 G 3 _) HE4.out (fun j hj e => by have h9 := (HE4.out.lt j hj).1; have := HGS.out; have := HGE.out; omega), cg_own (cg_set w4 G 3 _) HO4.out (fun j hj e => by have h9 := (HO4.out.lt j hj).1; have := HB0.out; have := HGS.out; have := HGE.out; omega), cg_trans HCG.out (cg_set w4 G 3 _) (fun _ _ h => h), Nat.le_trans HZ4.out (by simp [World.setCell])⟩
          clear HG4 HE4 HO4 HCG HPA HEA HZ HO HC HG HP
          go_wp2
          go_roundw
          case rel => exact ⟨k + 1, _, _, by go_num, by omega, HNX.out _ rfl⟩
          case measure => simp [RowKit.intOf]; omega
        · obtain rfl : k = M := by omega
          clear z0 z1 z2 z3 z4
          obtain ⟨_, _, e1, _, _, re, _⟩ := rdE_own HO.out
          obtain ⟨_, _, e2, _, _, rp, _⟩ := rdP_own HP.out
          cases e1
          cases e2
          have hat : FrAt wr (.agg #[.int .i64 kd, .int .i64 fr, .slice va i c, .slice oa k oc, .int .i64 nx]) (limF kd fr nx i k) := ⟨va, i, c, oa, k, oc, rfl, re, rp⟩
          have HBW : Hid (Below w.heap.size w wr) := HB3.out.trans (cg_bel HC.out HB3.out.size (fun j hj => by have := HGS.out; have := HGE.out; omega))
          have hl1 : (limF kd fr nx i k).vec.length ≤ 100000 := by show (entE i).length ≤ _; rw [entE_len]; omega
          have hl2 : (limF kd fr nx i k).ops.length ≤ 100000 := by show (opE k).length ≤ _; rw [opE_len]; omega
          have hlr := lim_right kd fr nx i k hN7 hM7
          have HBT : Hid (frB (limF kd fr nx i k) = true → Calls Try.prog 13 #[.agg #[.int .i64 kd, .int .i64 fr, .slice va i c, .slice oa k oc, .int .i64 nx]] wr fun e w' => ∃ a L c, e = .returned (.tuple #[.slice a L c, .int .i64 0]) ∧ decide ((0 : Int) < (L : Int)) = true ∧ Below wr.heap.size wr w') := fun hb => (frBytes_any _ _ wr hat hl1 hl2).mono fun e w' q => by
            obtain ⟨q1, q2, q3⟩ := q
            obtain ⟨v', rfl, ho⟩ := q2 hb
            obtain ⟨a, c, rfl, _⟩ := rd_own2 ho
            refine ⟨a, _, c, rfl, ?_, q1⟩
            have h5 : (bytesN (limF kd fr nx i k)).length = 6 + (pt (bodyN (limF kd fr nx i k))).length := wrapN_len _
            exact decide_eq_true (by omega)
          have HBF : Hid (frB (limF kd fr nx i k) = false → Calls Try.prog 13 #[.agg #[.int .i64 kd, .int .i64 fr, .slice va i c, .slice oa k oc, .int .i64 nx]] wr fun e w' => e = .returned (.tuple #[.slice none 0 0, .int .i64 1]) ∧ Below wr.heap.size wr w') := fun hb => (frBytes_any _ _ wr hat hl1 hl2).mono fun e w' q => ⟨q.2.2 hb, q.1⟩
          have HRT : Hid (∀ W, Below wr.heap.size wr W → Calls Try.prog 16 #[.agg #[.int .i64 kd, .int .i64 fr, .slice va i c, .slice oa k oc, .int .i64 nx]] W fun e w' => e = .returned (.bool (frB (limF kd fr nx i k))) ∧ Below W.heap.size W w') := fun W h => frRight_any _ _ W (hat.later h) hl1 hl2
          have HKK : Hid (∀ W, Below wr.heap.size wr W → W.heap[G]? = some (.cells #[.int .i64 kd, .int .i64 fr, .slice va i c, .slice oa k oc, .int .i64 nx] 25)) := fun W h => (h.block G (Array.getElem?_eq_some_iff.1 HG.out).1).trans HG.out
          have hdi : ∀ n : Nat, ((n : Int) == 0) = decide (n = 0) := fun n => by rw [Bool.eq_iff_iff]; simp
          have hd1 := hdi i
          have hd2 := hdi k
          generalize frB (limF kd fr nx i k) = z at HBT HBF HRT hlr
          unfold rpN at hlr
          clear HG HO HP HC HBZ HEB HB0 re rp hat hl1 hl2 hdi hlt hkm hin hN7 HB3 HGS HGE HB2 HG3
          have TREE : fr < 0 ∨ 63 < fr ∨ (0 ≤ fr ∧ fr ≤ 63) ∧ ((kd = 1 ∧ (i ≠ 0 ∨ i = 0 ∧ (¬ k ≤ 64 ∨ k ≤ 64 ∧ (nx ≠ 0 ∨ nx = 0)))) ∨ (kd = 2 ∧ (k ≠ 0 ∨ k = 0 ∧ (nx ≠ 0 ∨ nx = 0))) ∨ (kd = 3 ∧ (nx < 0 ∨ 0 ≤ nx ∧ (65536 < nx ∨ nx ≤ 65536))) ∨ (kd ≠ 1 ∧ kd ≠ 2 ∧ kd ≠ 3)) := by omega
          rcases TREE with h | h | ⟨⟨f0, f1⟩, (⟨rfl, (h | ⟨h, (h2 | ⟨h2, (h3 | h3)⟩)⟩)⟩ | ⟨rfl, (h | ⟨h, (h3 | h3)⟩)⟩ | ⟨rfl, (h | ⟨h, (h2 | h2)⟩)⟩ | ⟨g1, g2, g3⟩)⟩
          · have hz : z = false := by rw [hlr]; first | (simp [*]; done) | (simp [*]; omega)
            subst hz
            clear hlr HBT
            clear hd1 hd2
            go_upto_region 15 with (go_at_call 13; refine (HBF.out rfl).mono ?_; rintro e w5 ⟨rfl, hb⟩; have HB5 : Hid (Below wr.heap.size wr w5) := hb; clear hb x0 x1 x2 x3 x4)
            obtain ⟨⟨x0, x1, x2, x3, x4⟩, _⟩ := cells5 (HKK.out _ HB5.out)
            go_wp2_with (go_at_call 16; refine (HRT.out _ HB5.out).mono ?_; rintro e w6 ⟨rfl, hb⟩; have HB6 : Hid (Below w5.heap.size w5 w6) := hb; clear hb)
            go_ret
            exact ⟨rfl, HBW.out.trans ((HB5.out.trans (HB6.out.mono HB5.out.size)).mono HBW.out.size)⟩
          · have hz : z = false := by rw [hlr]; first | (simp [*]; done) | (simp [*]; omega)
            subst hz
            clear hlr HBT
            clear hd1 hd2
            go_upto_region 15 with (go_at_call 13; refine (HBF.out rfl).mono ?_; rintro e w5 ⟨rfl, hb⟩; have HB5 : Hid (Below wr.heap.size wr w5) := hb; clear hb x0 x1 x2 x3 x4)
            obtain ⟨⟨x0, x1, x2, x3, x4⟩, _⟩ := cells5 (HKK.out _ HB5.out)
            go_wp2_with (go_at_call 16; refine (HRT.out _ HB5.out).mono ?_; rintro e w6 ⟨rfl, hb⟩; have HB6 : Hid (Below w5.heap.size w5 w6) := hb; clear hb)
            go_ret
            exact ⟨rfl, HBW.out.trans ((HB5.out.trans (HB6.out.mono HB5.out.size)).mono HBW.out.size)⟩
          · have hz : z = false := by rw [hlr]; first | (simp [*]; done) | (simp [*]; omega)
            subst hz
            clear hlr HBT
            have n1 : ((i : Int) == 0) = false := by rw [hd1]; exact decide_eq_false h
            clear hd1 hd2
            go_upto_region 15 with (go_at_call 13; refine (HBF.out rfl).mono ?_; rintro e w5 ⟨rfl, hb⟩; have HB5 : Hid (Below wr.heap.size wr w5) := hb; clear hb x0 x1 x2 x3 x4)
            obtain ⟨⟨x0, x1, x2, x3, x4⟩, _⟩ := cells5 (HKK.out _ HB5.out)
            go_wp2_with (go_at_call 16; refine (HRT.out _ HB5.out).mono ?_; rintro e w6 ⟨rfl, hb⟩; have HB6 : Hid (Below w5.heap.size w5 w6) := hb; clear hb)
            go_ret
            exact ⟨rfl, HBW.out.trans ((HB5.out.trans (HB6.out.mono HB5.out.size)).mono HBW.out.size)⟩
          · have hz : z = false := by rw [hlr]; first | (simp [*]; done) | (simp [*]; omega)
            subst hz
            clear hlr HBT
            have n1 : ((i : Int) == 0) = true := by rw [hd1]; exact decide_eq_true h
            have n2 : decide ((k : Int) ≤ 64) = false := decide_eq_false (by omega)
            clear hd1 hd2
            clear h h2
            go_upto_region 15 with (go_at_call 13; refine (HBF.out rfl).mono ?_; rintro e w5 ⟨rfl, hb⟩; have HB5 : Hid (Below wr.heap.size wr w5) := hb; clear hb x0 x1 x2 x3 x4)
            obtain ⟨⟨x0, x1, x2, x3, x4⟩, _⟩ := cells5 (HKK.out _ HB5.out)
            go_wp2_with (go_at_call 16; refine (HRT.out _ HB5.out).mono ?_; rintro e w6 ⟨rfl, hb⟩; have HB6 : Hid (Below w5.heap.size w5 w6) := hb; clear hb)
            go_ret
            exact ⟨rfl, HBW.out.trans ((HB5.out.trans (HB6.out.mono HB5.out.size)).mono HBW.out.size)⟩
          · have hz : z = false := by rw [hlr]; first | (simp [*]; done) | (simp [*]; omega)
            subst hz
            clear hlr HBT
            have n1 : ((i : Int) == 0) = true := by rw [hd1]; exact decide_eq_true h
            have n2 : decide ((k : Int) ≤ 64) = true := decide_eq_true (by omega)
            clear hd1 hd2
            have n9 : (nx == 0) = false := by rw [beq_eq_false_iff_ne]; exact h3
            clear h h2 h3
            go_upto_region 15 with (go_at_call 13; refine (HBF.out rfl).mono ?_; rintro e w5 ⟨rfl, hb⟩; have HB5 : Hid (Below wr.heap.size wr w5) := hb; clear hb x0 x1 x2 x3 x4)
            obtain ⟨⟨x0, x1, x2, x3, x4⟩, _⟩ := cells5 (HKK.out _ HB5.out)
            go_wp2_with (go_at_call 16; refine (HRT.out _ HB5.out).mono ?_; rintro e w6 ⟨rfl, hb⟩; have HB6 : Hid (Below w5.heap.size w5 w6) := hb; clear hb)
            go_ret
            exact ⟨rfl, HBW.out.trans ((HB5.out.trans (HB6.out.mono HB5.out.size)).mono HBW.out.size)⟩
          · have hz : z = true := by rw [hlr]; first | (simp [*]; done) | (simp [*]; omega)
            subst hz
            clear hlr HBF
            have n1 : ((i : Int) == 0) = true := by rw [hd1]; exact decide_eq_true h
            have n2 : decide ((k : Int) ≤ 64) = true := decide_eq_true (by omega)
            subst h3
            clear hd1 hd2
            clear h h2
            go_upto_region 15 with (go_at_call 13; refine (HBT.out rfl).mono ?_; rintro e w5 ⟨a5, L5, c5, rfl, hL5, hb⟩; have HB5 : Hid (Below wr.heap.size wr w5) := hb; clear hb x0 x1 x2 x3 x4)
            obtain ⟨⟨x0, x1, x2, x3, x4⟩, _⟩ := cells5 (HKK.out _ HB5.out)
            go_wp2_with (go_at_call 16; refine (HRT.out _ HB5.out).mono ?_; rintro e w6 ⟨rfl, hb⟩; have HB6 : Hid (Below w5.heap.size w5 w6) := hb; clear hb)
            go_ret
            refine ⟨?_, HBW.out.trans ((HB5.out.trans (HB6.out.mono HB5.out.size)).mono HBW.out.size)⟩
            show Ending.returned (.bool (decide (0 < L5))) = _
            rw [show decide (0 < L5) = true from decide_eq_true (by have := of_decide_eq_true hL5; omega)]
          · have hz : z = false := by rw [hlr]; first | (simp [*]; done) | (simp [*]; omega)
            subst hz
            clear hlr HBT
            have n1 : ((k : Int) == 0) = false := by rw [hd2]; exact decide_eq_false h
            clear hd1 hd2
            go_upto_region 15 with (go_at_call 13; refine (HBF.out rfl).mono ?_; rintro e w5 ⟨rfl, hb⟩; have HB5 : Hid (Below wr.heap.size wr w5) := hb; clear hb x0 x1 x2 x3 x4)
            obtain ⟨⟨x0, x1, x2, x3, x4⟩, _⟩ := cells5 (HKK.out _ HB5.out)
            go_wp2_with (go_at_call 16; refine (HRT.out _ HB5.out).mono ?_; rintro e w6 ⟨rfl, hb⟩; have HB6 : Hid (Below w5.heap.size w5 w6) := hb; clear hb)
            go_ret
            exact ⟨rfl, HBW.out.trans ((HB5.out.trans (HB6.out.mono HB5.out.size)).mono HBW.out.size)⟩
          · have hz : z = false := by rw [hlr]; first | (simp [*]; done) | (simp [*]; omega)
            subst hz
            clear hlr HBT
            have n1 : ((k : Int) == 0) = true := by rw [hd2]; exact decide_eq_true h
            clear hd1 hd2
            have n9 : (nx == 0) = false := by rw [beq_eq_false_iff_ne]; exact h3
            clear h h3
            go_upto_region 15 with (go_at_call 13; refine (HBF.out rfl).mono ?_; rintro e w5 ⟨rfl, hb⟩; have HB5 : Hid (Below wr.heap.size wr w5) := hb; clear hb x0 x1 x2 x3 x4)
            obtain ⟨⟨x0, x1, x2, x3, x4⟩, _⟩ := cells5 (HKK.out _ HB5.out)
            go_wp2_with (go_at_call 16; refine (HRT.out _ HB5.out).mono ?_; rintro e w6 ⟨rfl, hb⟩; have HB6 : Hid (Below w5.heap.size w5 w6) := hb; clear hb)
            go_ret
            exact ⟨rfl, HBW.out.trans ((HB5.out.trans (HB6.out.mono HB5.out.size)).mono HBW.out.size)⟩
          · have hz : z = true := by rw [hlr]; first | (simp [*]; done) | (simp [*]; omega)
            subst hz
            clear hlr HBF
            have n1 : ((k : Int) == 0) = true := by rw [hd2]; exact decide_eq_true h
            subst h3
            clear hd1 hd2
            clear h
            go_upto_region 15 with (go_at_call 13; refine (HBT.out rfl).mono ?_; rintro e w5 ⟨a5, L5, c5, rfl, hL5, hb⟩; have HB5 : Hid (Below wr.heap.size wr w5) := hb; clear hb x0 x1 x2 x3 x4)
            obtain ⟨⟨x0, x1, x2, x3, x4⟩, _⟩ := cells5 (HKK.out _ HB5.out)
            go_wp2_with (go_at_call 16; refine (HRT.out _ HB5.out).mono ?_; rintro e w6 ⟨rfl, hb⟩; have HB6 : Hid (Below w5.heap.size w5 w6) := hb; clear hb)
            go_ret
            refine ⟨?_, HBW.out.trans ((HB5.out.trans (HB6.out.mono HB5.out.size)).mono HBW.out.size)⟩
            show Ending.returned (.bool (decide (0 < L5))) = _
            rw [show decide (0 < L5) = true from decide_eq_true (by have := of_decide_eq_true hL5; omega)]
          · have hz : z = false := by rw [hlr]; first | (simp [*]; done) | (simp [*]; omega)
            subst hz
            clear hlr HBT
            clear hd1 hd2
            go_upto_region 15 with (go_at_call 13; refine (HBF.out rfl).mono ?_; rintro e w5 ⟨rfl, hb⟩; have HB5 : Hid (Below wr.heap.size wr w5) := hb; clear hb x0 x1 x2 x3 x4)
            obtain ⟨⟨x0, x1, x2, x3, x4⟩, _⟩ := cells5 (HKK.out _ HB5.out)
            go_wp2_with (go_at_call 16; refine (HRT.out _ HB5.out).mono ?_; rintro e w6 ⟨rfl, hb⟩; have HB6 : Hid (Below w5.heap.size w5 w6) := hb; clear hb)
            go_ret
            exact ⟨rfl, HBW.out.trans ((HB5.out.trans (HB6.out.mono HB5.out.size)).mono HBW.out.size)⟩
          · have hz : z = false := by rw [hlr]; first | (simp [*]; done) | (simp [*]; omega)
            subst hz
            clear hlr HBT
            clear hd1 hd2
            have n9 : decide (nx ≤ 65536) = false := decide_eq_false (by omega)
            go_upto_region 15 with (go_at_call 13; refine (HBF.out rfl).mono ?_; rintro e w5 ⟨rfl, hb⟩; have HB5 : Hid (Below wr.heap.size wr w5) := hb; clear hb x0 x1 x2 x3 x4)
            obtain ⟨⟨x0, x1, x2, x3, x4⟩, _⟩ := cells5 (HKK.out _ HB5.out)
            go_wp2_with (go_at_call 16; refine (HRT.out _ HB5.out).mono ?_; rintro e w6 ⟨rfl, hb⟩; have HB6 : Hid (Below w5.heap.size w5 w6) := hb; clear hb)
            go_ret
            exact ⟨rfl, HBW.out.trans ((HB5.out.trans (HB6.out.mono HB5.out.size)).mono HBW.out.size)⟩
          · have hz : z = true := by rw [hlr]; first | (simp [*]; done) | (simp [*]; omega)
            subst hz
            clear hlr HBF
            clear hd1 hd2
            have n9 : decide (nx ≤ 65536) = true := decide_eq_true (by omega)
            go_upto_region 15 with (go_at_call 13; refine (HBT.out rfl).mono ?_; rintro e w5 ⟨a5, L5, c5, rfl, hL5, hb⟩; have HB5 : Hid (Below wr.heap.size wr w5) := hb; clear hb x0 x1 x2 x3 x4)
            obtain ⟨⟨x0, x1, x2, x3, x4⟩, _⟩ := cells5 (HKK.out _ HB5.out)
            go_wp2_with (go_at_call 16; refine (HRT.out _ HB5.out).mono ?_; rintro e w6 ⟨rfl, hb⟩; have HB6 : Hid (Below w5.heap.size w5 w6) := hb; clear hb)
            go_ret
            refine ⟨?_, HBW.out.trans ((HB5.out.trans (HB6.out.mono HB5.out.size)).mono HBW.out.size)⟩
            show Ending.returned (.bool (decide (0 < L5))) = _
            rw [show decide (0 < L5) = true from decide_eq_true (by have := of_decide_eq_true hL5; omega)]
          · have hz : z = false := by rw [hlr]; first | (simp [*]; done) | (simp [*]; omega)
            subst hz
            clear hlr HBT
            clear hd1 hd2
            go_upto_region 15 with (go_at_call 13; refine (HBF.out rfl).mono ?_; rintro e w5 ⟨rfl, hb⟩; have HB5 : Hid (Below wr.heap.size wr w5) := hb; clear hb x0 x1 x2 x3 x4)
            obtain ⟨⟨x0, x1, x2, x3, x4⟩, _⟩ := cells5 (HKK.out _ HB5.out)
            go_wp2_with (go_at_call 16; refine (HRT.out _ HB5.out).mono ?_; rintro e w6 ⟨rfl, hb⟩; have HB6 : Hid (Below w5.heap.size w5 w6) := hb; clear hb)
            go_ret
            exact ⟨rfl, HBW.out.trans ((HB5.out.trans (HB6.out.mono HB5.out.size)).mono HBW.out.size)⟩
end Go.Proofs.Ytohkdlgckepfgaa
