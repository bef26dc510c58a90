/- In one text: DfaLa, DfaLb, DfaLc, TabT. -/
import Derived.Test.YthdeadmnicmgfaaDoorJ22
import Derived.Test.YthdeadmnicmgfaaDoorJ29
import Derived.Test.YthdeadmnicmgfaaDoorJ25
/- What the statements of machines ask, without memory: expressions that fit the same, rows that are told. -/
namespace Go.Proofs.YthdeadmnicmgfaaDoor
open Go.RowKit
set_option linter.unusedVariables false
set_option linter.unusedSimpArgs false

/-! Expressions written otherwise. -/
/-! What a machine tells behind each beginning. -/
/-- The cells of what Run tells. -/
theorem run_cells {w : World} {B g cap n : Nat} {nx : List (List Nat)} {ou rs : List Nat} (h : w.ownsRow B 56 1 (.slice (some ⟨g, 0, none⟩) n cap) n (uv (runO nx ou rs n))) (i : Nat) (hi : i < n) : w.cell? ⟨g, i, none⟩ = some (.int .u64 ((ou.getD (runM nx 0 (rs.take i)) 0 : Nat) : Int)) := by
  obtain ⟨g', hg, _, cur, _, hc⟩ := own_cells1 h (by omega)
  cases hg
  rw [hc i hi]
  simp [uv, runO, hi]
/-- A row of classes as numbers. -/
theorem cls_nat {K : Nat} {row : List Int} (h : Cls K row) : (row.map Int.toNat).map Int.ofNat = row ∧ Wd K (row.map Int.toNat) := by
  refine ⟨?_, fun c hc => ?_⟩
  · rw [List.map_map]
    conv => rhs; rw [← List.map_id row]
    apply List.map_congr_left
    intro c hc
    have := (h c hc).1
    show ((c.toNat : Nat) : Int) = c
    omega
  · obtain ⟨x, hx, rfl⟩ := List.mem_map.1 hc
    have := h x hx
    omega
theorem Cls.take {K : Nat} {row : List Int} (h : Cls K row) (k : Nat) : Cls K (row.take k) := fun c hc => h c (List.mem_of_mem_take hc)
theorem Wd.take {K : Nat} {w : List Nat} (h : Wd K w) (k : Nat) : Wd K (w.take k) := fun c hc => h c (List.mem_of_mem_take hc)
/-- An expression fits behind a beginning of a row: all of it, or an end of it. -/
theorem out_whole {K : Nat} {xs : List (Nd × Bool)} {row : List Int} (hc : Cls K row) {k : Nat} {x : Nd × Bool} (hx : xs[k]? = some x) (hw : x.2 = true) (i : Nat) : outC xs ((row.map Int.toNat).take i) k ↔ x.1.fits (row.take i) := by
  unfold outC
  rw [← List.map_take, (cls_nat (hc.take i)).1]
  constructor
  · rintro ⟨y, hy, u, v, h1, h2, h3⟩
    obtain rfl : x = y := Option.some.inj (hx.symm.trans hy)
    rw [h2 hw] at h1
    rw [h1]; simpa using h3
  · intro h
    exact ⟨x, hx, [], row.take i, by simp, fun _ => rfl, h⟩
theorem out_some {K : Nat} {xs : List (Nd × Bool)} {row : List Int} (hc : Cls K row) {k : Nat} {x : Nd × Bool} (hx : xs[k]? = some x) (hw : x.2 = false) (i : Nat) (hi : i ≤ row.length) : outC xs ((row.map Int.toNat).take i) k ↔ ∃ j, j ≤ i ∧ x.1.fits (sg row j i) := by
  unfold outC
  rw [← List.map_take, (cls_nat (hc.take i)).1]
  constructor
  · rintro ⟨y, hy, u, v, h1, h2, h3⟩
    obtain rfl : x = y := Option.some.inj (hx.symm.trans hy)
    have hl := congrArg List.length h1
    simp at hl
    refine ⟨u.length, by omega, ?_⟩
    obtain ⟨_, _, h4⟩ := sg_cut row 0 i u v (by omega) hi (by rw [sg_take]; exact h1)
    rw [Nat.zero_add] at h4
    rw [h4]; exact h3
  · rintro ⟨j, hj, h⟩
    refine ⟨x, hx, row.take j, sg row j i, ?_, fun h => (by rw [hw] at h; cases h), h⟩
    rw [← sg_take, ← sg_take, sg_app row 0 j i (by omega) hj]
end Go.Proofs.YthdeadmnicmgfaaDoor

/- What the statements of machines ask, without memory: bits, expressions turned round, one that never fits, one or the other. -/
namespace Go.Proofs.YthdeadmnicmgfaaDoor
open Go.RowKit
set_option linter.unusedVariables false
set_option linter.unusedSimpArgs false

/-! Bits. -/
theorem and_one64 (X : Nat) : bits .and .u64 (X : Int) 1 = ((X % 2 : Nat) : Int) := by
  have key : (BitVec.ofInt 64 (X : Int) &&& BitVec.ofInt 64 1).toNat = X % 2 := by
    have h1 : (BitVec.ofInt 64 (1 : Int)).toNat = 2 ^ 1 - 1 := by decide
    rw [BitVec.toNat_and, BitVec.toNat_ofInt, h1, Nat.and_two_pow_sub_one_eq_mod]
    omega
  show IntKind.u64.wrap ((BitVec.ofInt 64 (X : Int) &&& BitVec.ofInt 64 1).toNat : Nat) = _
  rw [key, IntKind.wrap_u64]
  omega
theorem bit_mod (X k : Nat) : X / 2 ^ k % 2 = if X.testBit k = true then 1 else 0 := by
  rw [Nat.testBit_eq_decide_div_mod_eq]
  have : X / 2 ^ k % 2 = 0 ∨ X / 2 ^ k % 2 = 1 := by omega
  rcases this with h | h <;> simp [h]
theorem bit_eq {Y k : Nat} {t : Bool} (h : Y / 2 ^ k % 2 = if t = true then 1 else 0) : (bits .and .u64 ((Y : Int) / 2 ^ k) 1 == 1) = t := by
  have e : (Y : Int) / 2 ^ k = ((Y / 2 ^ k : Nat) : Int) := by simp
  rw [e, and_one64, h]
  cases t <;> rfl
/-! Turned round. -/
/-! One that never fits. -/
/-! One or the other, none and all. -/
end Go.Proofs.YthdeadmnicmgfaaDoor

/- Machines in memory, read step by step. -/
namespace Go.Proofs.YthdeadmnicmgfaaDoor
open Go.RowKit
set_option linter.unusedVariables false
set_option linter.unusedSimpArgs false

/-- The state behind a beginning. -/
def stR (nx : List (List Nat)) (row : List Int) (i : Nat) : Nat := runM nx 0 ((row.map Int.toNat).take i)
/-- What is told there. -/
def ouR (nx : List (List Nat)) (ou : List Nat) (row : List Int) (i : Nat) : Nat := ou.getD (stR nx row i) 0
theorem stR_take (nx : List (List Nat)) (row : List Int) (k i : Nat) (h : i ≤ k) : stR nx (row.take k) i = stR nx row i := by
  unfold stR
  rw [List.map_take, List.take_take, Nat.min_eq_left h]
/-- What Run tells, cell by cell. -/
theorem run_told {w w' : World} {B g cap n : Nat} {nx : List (List Nat)} {ou : List Nat} {row : List Int} (h : w.ownsRow B 56 1 (.slice (some ⟨g, 0, none⟩) n cap) n (uv (runO nx ou (row.map Int.toNat) n))) (hb : Below w.heap.size w w') (i : Nat) (hi : i < n) : w'.cell? ⟨g, i, none⟩ = some (.int .u64 ((ouR nx ou row i : Nat) : Int)) :=
  upC hb (run_cells h i hi)
end Go.Proofs.YthdeadmnicmgfaaDoor

/- What both machines tell of a row, and what Compile asks. -/
namespace Go.Proofs.YthdeadmnicmgfaaDoor
open Go.RowKit
set_option linter.unusedVariables false
set_option linter.unusedSimpArgs false

theorem belF_up {K K' : Int} (h : K ≤ K') : (f : Fo) → belF K f = true → belF K' f = true
  | .nil, _ => rfl
  | .node _ _ a k r, hf => by
    simp only [belF, Bool.and_eq_true, List.all_eq_true, decide_eq_true_eq] at hf ⊢
    exact ⟨⟨fun c hc => by have := hf.1.1 c hc; omega, belF_up h k hf.1.2⟩, belF_up h r hf.2⟩
theorem bel_up {K K' : Int} (h : K ≤ K') (n : Nd) (hn : n.bel K = true) : n.bel K' = true := by
  simp only [Nd.bel, Bool.and_eq_true, List.all_eq_true, decide_eq_true_eq] at hn ⊢
  exact ⟨fun c hc => by have := hn.1 c hc; omega, belF_up h _ hn.2⟩
theorem alw_up {K : Int} {xs : List (Nd × Bool)} (h : alwB K xs = true) (hK : K + 1 ≤ 24) : alwB (K + 1) xs = true := by
  simp only [alwB, Bool.and_eq_true, decide_eq_true_eq, List.all_eq_true] at h ⊢
  exact ⟨⟨⟨by omega, hK⟩, h.1.2⟩, fun x hx => ⟨(h.2 x hx).1, bel_up (by omega) _ (h.2 x hx).2⟩⟩
theorem cm_up {K : Int} {l : List Rl} (h : cmB K l = true) (hK : K + 1 ≤ 24) : cmB (K + 1) l = true := by
  simp only [cmB, Bool.and_eq_true] at h ⊢
  exact ⟨⟨h.1.1, alw_up h.1.2 hK⟩, alw_up h.2 hK⟩
theorem cm_range {K : Int} {l : List Rl} (h : cmB K l = true) : 1 ≤ K ∧ K ≤ 24 ∧ l.length ≤ 40 := by
  simp only [cmB, alwB, Bool.and_eq_true, decide_eq_true_eq] at h
  exact ⟨h.1.2.1.1.1, h.1.2.1.1.2, h.1.1.1⟩
theorem cm_25 (l : List Rl) : cmB 25 l = false := by
  cases h : cmB 25 l with
  | false => rfl
  | true => have := (cm_range h).2.1; omega
theorem ok_okT {n : Nd} (h : n.ok = true) : okN 32 n = true := by
  unfold Nd.ok at h
  simp only [Bool.and_eq_true] at h
  exact h.1
theorem cm_ok {K : Int} {l : List Rl} (h : cmB K l = true) : ∀ r, r ∈ l → okN 32 r.left = true ∧ okN 32 r.right = true := fun r hr => by
  simp only [cmB, Bool.and_eq_true, List.all_eq_true] at h
  exact ⟨ok_okT (h.1.1.2 r hr).1, ok_okT (h.1.1.2 r hr).2⟩
/-- An expression fits behind each beginning, as Suffix or Whole tells. -/
theorem out_told9 {K : Nat} {xs : List (Nd × Bool)} {row : List Int} (hc : Cls K row) {k : Nat} {x : Nd × Bool} (hx : xs[k]? = some x) {G : List Bool} (h1 : x.2 = true → EndsR x.1.fits row (fromB row.length) G) (h2 : x.2 = false → EndsR x.1.fits row (List.replicate (row.length + 1) true) G) (i : Nat) (hi : i ≤ row.length) : outC xs ((row.map Int.toNat).take i) k ↔ G[i]? = some true := by
  cases hw : x.2 with
  | true => rw [out_whole hc hx hw i, ends_whole (h1 hw) i hi]
  | false => rw [out_some hc hx hw i hi, ends_suffix (h2 hw) i hi]
theorem bit_told9 {K : Nat} {xs : List (Nd × Bool)} {nx : List (List Nat)} {ou : List Nat} (hle : LeastOf K xs nx ou) {row : List Int} (hc : Cls K row) {k : Nat} {x : Nd × Bool} (hx : xs[k]? = some x) {G : List Bool} (hG : G.length = row.length + 1) (h1 : x.2 = true → EndsR x.1.fits row (fromB row.length) G) (h2 : x.2 = false → EndsR x.1.fits row (List.replicate (row.length + 1) true) G) (i : Nat) (hi : i ≤ row.length) : (ouR nx ou row i).testBit k = G.getD i false := by
  have h3 := hle.tells _ ((cls_nat hc).2.take i) k
  have h4 := out_told9 hc hx h1 h2 i hi
  unfold outC at h4
  have h5 : (ouR nx ou row i).testBit k = true ↔ G[i]? = some true := h3.trans h4
  rw [Bool.eq_iff_iff, h5, List.getD_eq_getElem?_getD, List.getElem?_eq_getElem (by omega)]
  simp
theorem ouR_take (nx : List (List Nat)) (ou : List Nat) (row : List Int) (k i : Nat) (h : i ≤ k) : ouR nx ou (row.take k) i = ouR nx ou row i := by
  unfold ouR
  rw [stR_take nx row k i h]
/-- What Ahead tells. -/
theorem tell_left {K : Nat} {xs : List (Nd × Bool)} {nx : List (List Nat)} {ou : List Nat} (hle : LeastOf K xs nx ou) {row : List Int} (hc : Cls K row) {k : Nat} {x : Nd × Bool} (hx : xs[k]? = some x) {i : Nat} (hi : i ≤ row.length) {G : List Bool} (hG : G.length = i + 1) (h1 : x.2 = true → EndsR x.1.fits (row.take i) (fromB i) G) (h2 : x.2 = false → EndsR x.1.fits (row.take i) (List.replicate (i + 1) true) G) : (ouR nx ou row i).testBit k = G.getD i false := by
  have hl : (row.take i).length = i := by rw [List.length_take]; omega
  rw [← ouR_take nx ou row i i (Nat.le_refl _)]
  exact bit_told9 hle (hc.take i) hx (by rw [hl]; exact hG) (by rw [hl]; exact h1) (by rw [hl]; exact h2) i (by omega)
theorem sg_rev9 (xs : List Int) (i j : Nat) (hij : i ≤ j) (hj : j ≤ xs.length) : (sg xs.reverse i j).reverse = sg xs (xs.length - j) (xs.length - i) := by
  unfold sg
  rw [List.drop_reverse, List.take_reverse, List.reverse_reverse, List.length_take, List.drop_take]
  congr 1 <;> first | omega | (congr 1; omega)
theorem cls_rev {K : Nat} {row : List Int} (h : Cls K row) : Cls K row.reverse := fun c hc => h c (List.mem_reverse.1 hc)
/-- What Behind tells. -/
theorem tell_right {K : Nat} {l : List Rl} {nx : List (List Nat)} {ou : List Nat} (hle : LeastOf K (xsR l) nx ou) {row : List Int} (hc : Cls K row) {k : Nat} (hk : k < l.length) (hok : okN 32 l[k].right = true) {i q : Nat} (hi : i ≤ row.length) (hq : q = row.length - i) {G : List Bool} (hE : EndsR l[k].right.fits (row.drop i) (fromB q) G) : (ouR nx ou row.reverse q).testBit k = G.any id := by
  have hc' := cls_rev hc
  have hx : (xsR l)[k]? = some (l[k].right.rev, false) := by simp [xsR, hk]
  have h3 := hle.tells _ ((cls_nat hc').2.take q) k
  have h4 := out_some hc' hx rfl q (by rw [List.length_reverse]; omega)
  unfold outC at h4
  have h5 : (ouR nx ou row.reverse q).testBit k = true ↔ _ := h3.trans h4
  rw [Bool.eq_iff_iff, h5]
  clear h3 h4 h5 hle hc hc'
  have hlen : (row.drop i).length = q := by rw [List.length_drop, hq]
  rw [← hlen] at hE
  have key : ∀ j, j ≤ q → ((l[k].right.rev).fits (sg row.reverse j q) ↔ G[q - j]? = some true) := fun j hj => by
    rw [rev_fits 32 _ hok, sg_rev9 row j q hj (by omega), ends_whole hE (q - j) (by omega)]
    have e : sg row (row.length - q) (row.length - j) = (row.drop i).take (q - j) := by
      unfold sg
      rw [show row.length - q = i by omega, show row.length - j - i = q - j by omega]
    rw [e]
  have hGl := hE.1
  rw [hlen] at hGl
  rw [List.any_eq_true]
  constructor
  · rintro ⟨j, hj, h⟩
    have := (key j hj).1 h
    exact ⟨true, List.mem_of_getElem? this, rfl⟩
  · rintro ⟨b, hb, hbt⟩
    obtain ⟨p, hp, rfl⟩ := List.mem_iff_getElem.1 hb
    refine ⟨q - p, by omega, (key (q - p) (by omega)).2 ?_⟩
    rw [show q - (q - p) = p by omega, List.getElem?_eq_getElem hp]
    exact congrArg some hbt
end Go.Proofs.YthdeadmnicmgfaaDoor
