/- The walks of IndexFunc over rows of truths, and of Boundaries. -/
import Derived.Test.YtjbhfonokgkalaaReaP
namespace Go.Proofs.Ytjbhfonokgkalaa
open Go.RowKit
set_option linter.unusedVariables false
set_option linter.unusedSimpArgs false

theorem info_bb : (Try.prog.info? 27).map (fun i => (i.zero, i.size, i.bytes)) = some (some (.slice none 0 0), 1, 24) := by kernel_rfl
theorem made_one (v : Value) (n : Nat) : (madeCells #[v] n).toList = List.replicate n v := by
  apply List.ext_getElem
  · simp [size_madeCells]
  · intro i h1 h2
    simp [madeCells, Nat.mod_one]
theorem says_first (q : Rl → Bool) : (l : List Rl) → (firstI q l = -1 → saysB q l = true) ∧ ∀ k (hk : k < l.length), firstI q l = k → saysB q l = l[k].brk
  | [] => ⟨fun _ => rfl, fun k hk => by simp at hk⟩
  | r :: l => by
    obtain ⟨h1, h2⟩ := says_first q l
    cases hq : q r with
    | true =>
      refine ⟨fun h => by simp [firstI, hq] at h, fun k hk h => ?_⟩
      have : k = 0 := by simp [firstI, hq] at h; omega
      subst this
      simp [saysB, hq]
    | false =>
      by_cases hf : firstI q l = -1
      · refine ⟨fun _ => by simp [saysB, hq, h1 hf], fun k hk h => ?_⟩
        simp [firstI, hq, hf] at h
      · refine ⟨fun h => ?_, fun k hk h => ?_⟩
        · rcases firstI_cases q l with ⟨h3, _⟩ | ⟨k, hk, h3, _⟩
          · exact absurd h3 hf
          · simp [firstI, hq, hf, h3] at h
            omega
        · have h3 : firstI q l + 1 = k := by simpa [firstI, hq, hf] using h
          cases k with
          | zero =>
            rcases firstI_cases q l with ⟨h4, _⟩ | ⟨k, hk, h4, _⟩
            · exact absurd h4 hf
            · omega
          | succ k =>
            have := h2 k (by simpa using hk) (by omega)
            simp [saysB, hq, this]
/-- Rows of truths, each of which can be read. -/
def RowB (w : World) (a : Option Addr) (n m : Nat) (L : List (List Bool)) : Prop :=
  L.length = n ∧ ∀ i (hi : i < L.length), L[i].length = m ∧ ∃ b off g c, a = some ⟨b, off, none⟩ ∧ w.cell? ⟨b, off + i, none⟩ = some (.slice (some ⟨g, 0, none⟩) m c) ∧ ∀ p (hp : p < L[i].length), w.cell? ⟨g, p, none⟩ = some (.bool L[i][p])
theorem RowB.later {w w' : World} {a : Option Addr} {n m : Nat} {L : List (List Bool)} (h : RowB w a n m L) (hb : Below w.heap.size w w') : RowB w' a n m L := by
  refine ⟨h.1, fun i hi => ?_⟩
  obtain ⟨h0, b, off, g, c, h1, h2, h3⟩ := h.2 i hi
  have hup : ∀ (p : Addr) (v : Value), w.cell? p = some v → w'.cell? p = some v := fun p v hv => (hb.cell (World.block_lt_of_cell? w _ hv)).trans hv
  exact ⟨h0, b, off, g, c, h1, hup _ _ h2, fun p hp => hup _ _ (h3 p hp)⟩

set_option maxHeartbeats 2000000 in
theorem indexB_any (L : List (List Bool)) (a : Option Addr) (n m c : Nat) (p : Nat) (b1 : Nat) (w : World) (hrow : RowB w a n m L) (hn : n ≤ 1000000) (hm : m ≤ 1000001) (hp : p < m) (c1 : w.cell? ⟨b1, 0, none⟩ = some (.int .i64 p)) :
    Calls Try.prog 38 #[.slice a n c, .func (.func 39) #[] #[.pointer (some ⟨b1, 0, none⟩)]] w fun e w' => e = .returned (.int .i64 (firstI (fun r => r.getD p false) L)) ∧ w' = w := by
  have HD : Hid (RowB w a n m L) := hrow
  have HL : Hid (L.length = n) := hrow.1
  obtain ⟨R, hR⟩ : ∃ R, R = firstI (fun r => r.getD p false) L := ⟨_, rfl⟩
  rw [← hR]
  have HR : Hid (R = firstI (fun r => r.getD p false) L) := hR
  have hni : (n : Int) ≤ 1000000 := by omega
  have hp0 : (0 : Int) ≤ (p : Int) := by omega
  have hp1 : (p : Int) < (m : Int) := by omega
  clear hrow hR hn
  go_enter Try.func38, Try.ntmps38
  go_wp2
  go_loop [8] (fun x8 => ∃ k : Nat, k ≤ n ∧ x8 = .int .i64 k ∧ (∀ j (hj : j < L.length), j < k → L[j].getD p false = false)) (fun x8 => n - (intOf x8).toNat)
  case atStart => exact ⟨0, by omega, rfl, fun j _ hj => absurd hj (by omega)⟩
  case round =>
    obtain ⟨k, hk, hx8, hat⟩ := hrel
    subst hx8
    have HA : Hid (∀ j (hj : j < L.length), j < k → L[j].getD p false = false) := hat
    clear hat
    by_cases hlt : k < n
    · have hkl : k < L.length := by rw [HL.out]; exact hlt
      obtain ⟨h0, b, off, g, cc, rfl, t0, t1⟩ := HD.out.2 k hkl
      have t2 := t1 p (by omega)
      obtain ⟨B, hB⟩ : ∃ B, B = L[k].getD p false := ⟨_, rfl⟩
      have hBB : L[k][p]'(by omega) = B := by rw [hB, List.getD_eq_getElem?_getD, List.getElem?_eq_getElem (by omega)]; rfl
      rw [hBB] at t2
      have HBB : Hid (B = L[k].getD p false) := hB
      have HCC : Hid (Calls Try.prog 39 #[.slice (some ⟨g, 0, none⟩) m cc, .pointer (some ⟨b1, 0, none⟩)] w fun x w' => x = .returned (.bool B) ∧ w' = w) := by
        clear HD HL HR HA HBB t0 t1 hB hBB h0
        go_enter Try.func39, Try.ntmps39
        go_wp2
        go_ret
        exact ⟨rfl, rfl⟩
      clear t1 t2 hB hBB h0
      go_wp2_with fail
      refine HCC.out.mono ?_
      rintro x w2 ⟨rfl, hw2⟩
      obtain rfl : w = w2 := hw2.symm
      cases B with
      | true =>
        have hR : R = k := HR.out.trans (firstI_at _ L k hkl (fun j hj => HA.out j (by omega) hj) HBB.out.symm)
        subst hR
        go_wp2
        go_ret
        exact ⟨rfl, rfl⟩
      | false =>
        go_wp2
        go_round
        case rel =>
          refine ⟨k + 1, by omega, by go_num, fun j hj hj2 => ?_⟩
          rcases Nat.lt_or_ge j k with h | h
          · exact HA.out j hj h
          · obtain rfl : j = k := by omega
            exact HBB.out.symm
        case measure => simp [intOf]; omega
    · have hR : R = -1 := HR.out.trans (firstI_no _ L (fun x hx => by
        obtain ⟨j, hj, rfl⟩ := List.mem_iff_getElem.1 hx
        exact HA.out j hj (by rw [HL.out] at hj; omega)))
      subst hR
      go_wp2
      go_ret
      exact ⟨rfl, rfl⟩
/-- The rows of the rules up to one. -/
def FtAt (l : List Rl) (xs : List Int) (k : Nat) (v : Value) (w wr : World) : Prop :=
  ∃ vs : List Value, wr.ownsRow w.heap.size 27 1 v k vs ∧ Below w.heap.size w wr ∧ ∀ i (hi : i < vs.length) (hl : i < l.length), ∃ g c, vs[i] = .slice (some ⟨g, 0, none⟩) (xs.length + 1) c ∧ wr.ownsRow w.heap.size 4 1 (.slice (some ⟨g, 0, none⟩) (xs.length + 1) c) (xs.length + 1) ((ruleL l[i] xs).map Value.bool)
/-- One row more. -/
theorem ft_step {l : List Rl} {xs : List Int} {k : Nat} {v : Value} {w wr P w2 : World} {vs : List Value} (hk : k < l.length) (h1 : wr.ownsRow w.heap.size 27 1 v k vs) (h3 : Below w.heap.size w wr) (h4 : ∀ i (hi : i < vs.length) (hl : i < l.length), ∃ g c, vs[i] = .slice (some ⟨g, 0, none⟩) (xs.length + 1) c ∧ wr.ownsRow w.heap.size 4 1 (.slice (some ⟨g, 0, none⟩) (xs.length + 1) c) (xs.length + 1) ((ruleL l[i] xs).map Value.bool)) (hP : Below wr.heap.size wr P) (g2 c2 : Nat) (ho2 : w2.ownsRow P.heap.size 4 1 (.slice (some ⟨g2, 0, none⟩) (xs.length + 1) c2) (xs.length + 1) ((ruleL l[k] xs).map Value.bool)) (hb2 : Below P.heap.size P w2) :
    w2.ownsRow w.heap.size 27 1 v k vs ∧ ∀ (g cap : Nat) (w1 : World), w1.ownsRow w.heap.size 27 1 (.slice (some ⟨g, 0, none⟩) (k + 1) cap) (k + 1) (vs ++ [.slice (some ⟨g2, 0, none⟩) (xs.length + 1) c2]) → (w2.alloc (.cells #[.slice (some ⟨g2, 0, none⟩) (xs.length + 1) c2] 27)).grownBy w1 v.ownBlock → FtAt l xs (k + 1) (.slice (some ⟨g, 0, none⟩) (k + 1) cap) w w1 := by
  have hbw2 : Below wr.heap.size wr w2 := hP.trans (hb2.mono hP.size)
  have hs := h3.size
  refine ⟨own_later5 h1 hbw2, fun g cap w1 o1 gr => ?_⟩
  have hvl : vs.length = k := by simpa using h1.1
  have hbA : Below w.heap.size w (w2.alloc (.cells #[.slice (some ⟨g2, 0, none⟩) (xs.length + 1) c2] 27)) := (h3.trans (hbw2.mono hs)).alloc (by have := hbw2.size; omega) _
  -- rows of truths are not the row of rows
  have hkeep : ∀ (gg cc : Nat) (ys : List Value) (B : Nat), w2.ownsRow B 4 1 (.slice (some ⟨gg, 0, none⟩) (xs.length + 1) cc) (xs.length + 1) ys → w1.ownsRow B 4 1 (.slice (some ⟨gg, 0, none⟩) (xs.length + 1) cc) (xs.length + 1) ys := by
    intro gg cc ys B ho
    refine own_same ho (fun y hy => ?_)
    have hyl := (ho.lt y hy).2
    rw [gr.block y (by simp; omega) (fun e => ?_)]
    · exact Below.heap_alloc _ _ _ hyl
    · rcases ho.2 with ⟨hv, _⟩ | ⟨q, _, cur, hv, _, hq, _⟩
      · cases hv
      · cases hv
        injection hy with hy
        have hyq : gg = y := hy
        rcases (own_later5 h1 hbw2).2 with ⟨hv2, _⟩ | ⟨q2, _, cur2, hv2, _, hq2, _⟩
        · rw [hv2] at e; cases e
        · rw [hv2] at e
          injection e with e
          have : q2 = y := e.symm
          rw [this, ← hyq] at hq2
          rw [hq] at hq2
          injection hq2 with hq2
          injection hq2 with _ ht _
          exact absurd ht (by decide)
  refine ⟨vs ++ [.slice (some ⟨g2, 0, none⟩) (xs.length + 1) c2], o1, hbA.grown gr (by have := hbA.size; omega) (fun y hy => (h1.lt y hy).1), fun i hi hl => ?_⟩
  by_cases hik : i < k
  · obtain ⟨gg, cc, e1, e2⟩ := h4 i (by omega) hl
    refine ⟨gg, cc, ?_, hkeep _ _ _ _ (own_later5 e2 hbw2)⟩
    rw [List.getElem_append_left (by omega)]
    exact e1
  · have : i = k := by simp at hi; omega
    subst this
    refine ⟨g2, c2, ?_, own_base (hkeep _ _ _ _ ho2) (by have := hP.size; omega)⟩
    rw [List.getElem_append_right (by omega)]
    simp
theorem ft_rows {l : List Rl} {xs : List Int} {v : Value} {w wr : World} (h : FtAt l xs l.length v w wr) : ∃ a c, v = .slice a l.length c ∧ RowB wr a l.length (xs.length + 1) (l.map fun r => ruleL r xs) := by
  obtain ⟨vs, h1, h3, h4⟩ := h
  obtain ⟨a, c, rfl⟩ := own_sl1 h1
  have hvl : vs.length = l.length := by simpa using h1.1
  refine ⟨a, c, rfl, by simp, fun i hi => ?_⟩
  have hi' : i < l.length := by simpa using hi
  obtain ⟨g, rfl, _, cur, hg, hcel⟩ := own_cells1 h1 (by omega)
  obtain ⟨gg, cc, e1, e2⟩ := h4 i (by omega) hi'
  obtain ⟨g', hg', _, cur', hgc, hcel'⟩ := own_cells1 e2 (by omega)
  cases hg'
  simp only [List.getElem_map]
  refine ⟨ruleL_len _ _, g, 0, gg, cc, rfl, ?_, fun p hp => ?_⟩
  · rw [Nat.zero_add, hcel i hi', List.getElem?_eq_getElem (by omega), e1]
  · rw [ruleL_len] at hp
    rw [hcel' p hp, List.getElem?_map, List.getElem?_eq_getElem (by rw [ruleL_len]; omega)]
    rfl
end Go.Proofs.Ytjbhfonokgkalaa
