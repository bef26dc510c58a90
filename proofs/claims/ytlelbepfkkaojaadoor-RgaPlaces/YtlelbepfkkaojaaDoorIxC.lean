/- An index in memory; the walks of its functions that only read: Len, Count, find, Seen, Rank, Select. -/
import Derived.Test.YtlelbepfkkaojaaDoorIxB
import Derived.Test.YtlelbepfkkaojaaDoorIxN
namespace Go.Proofs.YtlelbepfkkaojaaDoor
open Go.RowKit
set_option linter.unusedVariables false
set_option linter.unusedSimpArgs false

/-- The cells of blocks, one behind the other. -/
def flatB (Bs : List (List Bool)) : List Value := Bs.flatMap encB
theorem flatB_len : (Bs : List (List Bool)) → (flatB Bs).length = Bs.length * 3
  | [] => rfl
  | b :: r => by
    have e : flatB (b :: r) = encB b ++ flatB r := by simp [flatB]
    have h3 : (encB b).length = 3 := rfl
    rw [e, List.length_append, flatB_len r, h3, List.length_cons]
    omega
theorem flatB_app (a b : List (List Bool)) : flatB (a ++ b) = flatB a ++ flatB b := by simp [flatB]
theorem flatB_one (x : List Bool) (b : List (List Bool)) : flatB (x :: b) = encB x ++ flatB b := by simp [flatB]
theorem flatB_at (Bs : List (List Bool)) (i : Nat) (h : i < Bs.length) (b : List Bool) : flatB (Bs.set i b) = flatB (Bs.take i) ++ (encB b ++ flatB (Bs.drop (i + 1))) := by
  rw [rows_set Bs i b h, flatB_app, flatB_one]
theorem set_same (Bs : List (List Bool)) (i : Nat) (h : i < Bs.length) : Bs.set i (Bs.getD i []) = Bs := by
  rw [rows_set Bs i _ h]; exact (rows_at Bs i h).symm
/-- One block of a row of blocks, and the row when it is another one. -/
theorem own_blk {W : World} {B : Nat} {v : Value} {Bs : List (List Bool)} (h : W.ownsRow B 77 3 v Bs.length (flatB Bs)) (i : Nat) (hi : i < Bs.length) :
    ∃ g cap A D, v = .slice (some ⟨g, 0, none⟩) Bs.length cap ∧ BkAt W g (i * 3) A D (Bs.getD i []) ∧ B ≤ g ∧ Bs.length ≤ cap ∧ cap ≤ 9223372036854775807 ∧ ∀ W' b', BkAt W' g (i * 3) A D b' → W'.ownsRow B 77 3 v Bs.length (flatB (Bs.set i b')) := by
  rcases h.2 with ⟨_, h0⟩ | ⟨g, cap, cur, rfl, hb, hg, hn, hm, hs, ht⟩
  · omega
  · have hA : (flatB (Bs.take i)).length = i * 3 := by rw [flatB_len, List.length_take, Nat.min_eq_left (by omega)]
    have hc : cur.toList = flatB (Bs.take i) ++ (encB (Bs.getD i []) ++ (flatB (Bs.drop (i + 1)) ++ cur.toList.drop (Bs.length * 3))) := by
      have e := flatB_at Bs i hi (Bs.getD i [])
      rw [set_same Bs i hi] at e
      have e2 := List.take_append_drop (Bs.length * 3) cur.toList
      rw [ht, e] at e2
      simp only [List.append_assoc] at e2
      exact e2.symm
    refine ⟨g, cap, flatB (Bs.take i), flatB (Bs.drop (i + 1)) ++ cur.toList.drop (Bs.length * 3), rfl, ⟨hA, ?_⟩, hb, hn, by simpa [maxLen] using hm, fun W' b' hW => ?_⟩
    · rw [hg, ← hc]
    · refine ⟨by rw [flatB_len]; simp, .inr ⟨g, cap, _, rfl, hb, hW.2, hn, hm, ?_, ?_⟩⟩
      · have e3 := congrArg List.length hc
        have h3 : (encB (Bs.getD i [])).length = 3 := rfl
        have h4 : (encB b').length = 3 := rfl
        simp only [List.length_append, h3] at e3
        simp only [List.size_toArray, List.length_append, h4]
        have : cur.toList.length = cur.size := by simp
        omega
      · rw [flatB_at Bs i hi b']
        simp only [List.toList_toArray]
        rw [← List.append_assoc (encB b'), ← List.append_assoc, List.take_append_of_le_length, List.take_of_length_le]
        · have h4 : (encB b').length = 3 := rfl
          simp only [List.length_append, hA, h4, flatB_len, List.length_drop]
          omega
        · have h4 : (encB b').length = 3 := rfl
          simp only [List.length_append, hA, h4, flatB_len, List.length_drop]
          omega
/-- An index in memory, by its blocks. -/
def IxB (W : World) (P B : Nat) (v : Value) (n c : Nat) (Bs : List (List Bool)) : Prop :=
  W.heap[P]? = some (.cells #[.int .i64 (n : Int), .int .i64 (c : Int), v] 62) ∧ W.ownsRow B 77 3 v Bs.length (flatB Bs) ∧ v.ownBlock ≠ some P ∧ B ≤ P
/-- An index in memory, by its marks. -/
def IxAt (W : World) (P B : Nat) (v : Value) (L : List Bool) : Prop := ∃ Bs, GoodB Bs ∧ Bs.flatten = L ∧ IxB W P B v L.length (cnt L) Bs
/-- Which blocks are an index's. -/
def OwnX (P : Nat) (v : Value) (k : Nat) : Prop := k = P ∨ v.ownBlock = some k
theorem IxB.keep {w W : World} {Q : Nat → Prop} {P B n c : Nat} {v : Value} {Bs : List (List Bool)} (h : IxB w P B v n c Bs) (hc : Chg w W Q) (hq : ∀ k, OwnX P v k → ¬ Q k) : IxB W P B v n c Bs :=
  ⟨cg_heap hc h.1 (hq P (.inl rfl)), cg_own hc h.2.1 (fun k hk => hq k (.inr hk)), h.2.2⟩
theorem IxAt.keep {w W : World} {Q : Nat → Prop} {P B : Nat} {v : Value} {L : List Bool} (h : IxAt w P B v L) (hc : Chg w W Q) (hq : ∀ k, OwnX P v k → ¬ Q k) : IxAt W P B v L := by
  obtain ⟨Bs, h1, h2, h3⟩ := h
  exact ⟨Bs, h1, h2, h3.keep hc hq⟩
theorem IxAt.later {w W : World} {P B : Nat} {v : Value} {L : List Bool} (h : IxAt w P B v L) (hb : Below w.heap.size w W) : IxAt W P B v L := h.keep (Q := fun _ => False) (cg_below hb _) (fun _ _ h => h)
theorem IxAt.drewN {w : World} {P B : Nat} {v : Value} {L : List Bool} (h : IxAt w P B v L) (q : Nat) : IxAt (w.drewN q) P B v L := h
theorem IxB.cells {W : World} {P B n c : Nat} {v : Value} {Bs : List (List Bool)} (h : IxB W P B v n c Bs) : W.cell? ⟨P, 0, none⟩ = some (.int .i64 (n : Int)) ∧ W.cell? ⟨P, 1, none⟩ = some (.int .i64 (c : Int)) ∧ W.cell? ⟨P, 2, none⟩ = some v ∧ ∀ j, W.frozen? ⟨P, j, none⟩ = false :=
  ⟨cell_of_row W P 0 _ _ _ h.1, cell_of_row W P 1 _ _ _ h.1, cell_of_row W P 2 _ _ _ h.1, fun j => Lib.frozen_of_heap h.1 _⟩
theorem own_sl {w : World} {B n s : Nat} {e : TypeId} {v : Value} {xs : List Value} (h : w.ownsRow B e s v n xs) : ∃ a cap, v = .slice a n cap ∧ n ≤ cap ∧ cap ≤ 9223372036854775807 := by
  rcases h.2 with ⟨rfl, rfl⟩ | ⟨g, cap, cur, rfl, hb, hg, hn, hm, hs, ht⟩
  · exact ⟨none, 0, rfl, by omega, by omega⟩
  · exact ⟨_, cap, rfl, hn, by simpa [maxLen] using hm⟩
theorem len_any {W : World} {P B : Nat} {v : Value} {L : List Bool} (h : IxAt W P B v L) : Calls Tryd.prog 41 #[.pointer (some ⟨P, 0, none⟩)] W fun e w' => e = .returned (.int .i64 (L.length : Int)) ∧ w' = W := by
  obtain ⟨Bs, _, _, h3⟩ := h
  exact tlen_any _ P 0 W h3.cells.1
theorem count_any {W : World} {P B : Nat} {v : Value} {L : List Bool} (h : IxAt W P B v L) : Calls Tryd.prog 23 #[.pointer (some ⟨P, 0, none⟩)] W fun e w' => e = .returned (.int .i64 (cnt L : Int)) ∧ w' = W := by
  obtain ⟨Bs, _, _, h3⟩ := h
  exact tcount_any _ P 0 W h3.cells.2.1

set_option maxHeartbeats 1000000 in
theorem find_any (P B n c : Nat) (v : Value) (Bs : List (List Bool)) (a : Int) (W : World) (h : IxB W P B v n c Bs) (h1 : -1 ≤ a) (h2 : a ≤ 4611686018427387904) (hbl : Bs.length ≤ 100000000) :
    Calls Tryd.prog 44 #[.pointer (some ⟨P, 0, none⟩), .int .i64 a] W fun e w' => e = .returned (.tuple #[.int .i64 ((fnd Bs a).1 : Int), .int .i64 (fnd Bs a).2]) ∧ w' = W := by
  obtain ⟨_, _, c2, _⟩ := h.cells
  obtain ⟨sa, cap, rfl, hcap, _⟩ := own_sl h.2.1
  have HB : Hid (∀ i, i < Bs.length → ∃ g, sa = some ⟨g, 0, none⟩ ∧ W.cell? ⟨g, i * 3, none⟩ = some (.int .i64 ((Bs.getD i []).length : Int))) := by
    intro i hi
    obtain ⟨g, cap', A, D, hv, hb, _⟩ := own_blk h.2.1 i hi
    cases hv
    exact ⟨g, rfl, hb.cells.1⟩
  have HL : Hid (Bs.length ≤ 100000000) := hbl
  have HA : Hid (-1 ≤ a ∧ a ≤ 4611686018427387904) := ⟨h1, h2⟩
  have HT : Hid (∀ i, i < Bs.length → Calls Tryd.prog 41 #[.pointer (sa.map (fun x => ⟨x.block, i * 3, none⟩))] W fun e w' => e = .returned (.int .i64 ((Bs.getD i []).length : Int)) ∧ w' = W) := by
    intro i hi
    obtain ⟨g, rfl, hc⟩ := HB.out i hi
    exact tlen_any _ g (i * 3) W hc
  obtain ⟨N, hN⟩ : ∃ N, N = Bs.length := ⟨_, rfl⟩
  rw [← hN] at c2
  have HN : Hid (N = Bs.length) := hN
  clear h hcap hbl h1 h2 hN
  obtain ⟨R1, R2, hR⟩ : ∃ R1 R2, fnd Bs a = (R1, R2) := ⟨_, _, rfl⟩
  rw [hR]
  have HR : Hid (fnd Bs a = (R1, R2)) := hR
  clear hR
  go_enter Tryd.func44, Tryd.ntmps44
  go_wp2
  go_loopw [13, 1] (fun x13 x1 wr => ∃ i : Nat, x13 = .int .i64 (i : Int) ∧ x1 = .int .i64 (leftA Bs i a) ∧ i ≤ N ∧ Past Bs i a ∧ -1 ≤ leftA Bs i a ∧ leftA Bs i a ≤ a ∧ wr = W) (fun x13 x1 _ => N - (intOf x13).toNat)
  case atStart => exact ⟨0, rfl, by simp [leftA], by omega, fun j hj => absurd hj (by omega), by have := HA.out; simp [leftA]; omega, by simp [leftA], rfl⟩
  case round =>
    obtain ⟨i, hx, hx1, hik, hpast, hlo, hup, hwr⟩ := hrel
    subst hx hx1 hwr
    have HP : Hid (Past Bs i a) := hpast
    clear hpast
    by_cases hlt : i < N
    · have hlt' : decide ((i : Int) < (N : Int)) = true := by simpa using hlt
      have hib : i < Bs.length := by rw [← HN.out]; exact hlt
      obtain ⟨g, rfl, hc⟩ := HB.out i hib
      have HLN : Hid (Calls Tryd.prog 41 #[.pointer (some ⟨g, i * 3, none⟩)] wr fun e w' => e = .returned (.int .i64 ((Bs.getD i []).length : Int)) ∧ w' = wr) := HT.out i hib
      have hi0 : (0 : Int) ≤ (i : Int) := by omega
      have hiN : (i : Int) < (N : Int) := by omega
      have HNX : Hid (leftA Bs (i + 1) a = leftA Bs i a - ((Bs.getD i []).length : Int)) := left_next Bs i hib a
      have HUP : Hid (-1 ≤ leftA Bs i a ∧ leftA Bs i a ≤ a ∧ a ≤ 4611686018427387904) := ⟨hlo, hup, HA.out.2⟩
      by_cases hin : leftA Bs i a < ((Bs.getD i []).length : Int)
      · have HF : Hid (fnd Bs a = (i, leftA Bs i a)) := fnd_at Bs i a HP.out (fun _ => hin) (by omega)
        have hd : decide (leftA Bs i a < ((Bs.getD i []).length : Int)) = true := by simpa using hin
        clear hin hlo hup hlt hik hc
        obtain ⟨hr1, hr2⟩ := Prod.mk.inj (HF.out.symm.trans HR.out)
        subst hr1
        rw [hr2] at hd HNX HUP ⊢
        clear HR HF HP HA hr2
        generalize ((Bs.getD i []).length : Int) = y at hd HLN HNX
        go_wp2_with (first | (go_at_call 41; refine HLN.out.mono ?_; rintro e w' ⟨rfl, rfl⟩))
        go_ret2
        exact ⟨rfl, rfl⟩
      · have hd : decide (leftA Bs i a < ((Bs.getD i []).length : Int)) = false := by simpa using hin
        have HNE : Hid (Past Bs (i + 1) a ∧ -1 ≤ leftA Bs (i + 1) a ∧ leftA Bs (i + 1) a ≤ a) := by
          rw [HNX.out]
          refine ⟨fun j hj => ?_, by omega, by omega⟩
          rcases Nat.lt_or_ge j i with h | h
          · exact HP.out j h
          · obtain rfl : j = i := by omega
            omega
        have hwp : wrap64 (leftA Bs i a - ((Bs.getD i []).length : Int)) = leftA Bs (i + 1) a := by
          have := HUP.out
          have := HNE.out
          rw [← HNX.out]; unfold wrap64; omega
        have hi1 : (i : Int) + 1 ≤ 100000001 := by have := HL.out; omega
        have HX : Hid (i + 1 ≤ N) := hlt
        clear hin hlo hup hlt hik hc HNX HUP
        generalize leftA Bs i a = x at hd HLN hwp
        generalize ((Bs.getD i []).length : Int) = y at hd HLN hwp
        go_wp2_with (first | (go_at_call 41; refine HLN.out.mono ?_; rintro e w' ⟨rfl, rfl⟩))
        go_roundw
        case rel => exact ⟨i + 1, by rw [Int.natCast_add]; rfl, congrArg _ hwp, HX.out, HNE.out.1, HNE.out.2.1, HNE.out.2.2, trivial⟩
        case measure => have := HX.out; simp [intOf]; omega
    · have hlt' : decide ((i : Int) < (N : Int)) = false := by simpa using hlt
      obtain rfl : i = N := by omega
      have HF : Hid (fnd Bs a = (i, leftA Bs i a)) := by
        have := HN.out
        exact fnd_at Bs i a HP.out (fun h => by omega) (by omega)
      clear hlt hik hlo hup
      obtain ⟨hr1, hr2⟩ := Prod.mk.inj (HF.out.symm.trans HR.out)
      subst hr1
      rw [hr2]
      clear HR HF HP HA hr2
      go_wp2
      go_ret2
      exact ⟨rfl, rfl⟩
end Go.Proofs.YtlelbepfkkaojaaDoor
