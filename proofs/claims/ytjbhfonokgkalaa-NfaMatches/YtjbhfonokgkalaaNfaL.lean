/- Expressions put together: in memory, whether they are right, what they fit. -/
import Derived.Test.YtjbhfonokgkalaaNfaK
namespace Go.Proofs.Ytjbhfonokgkalaa
open Go.RowKit
set_option linter.unusedVariables false
set_option linter.unusedSimpArgs false

theorem three_cells {x0 x1 x2 : Value} {cs : Array Value} {i : Nat} (h0 : cs[i * 3]? = some x0) (h1 : cs[i * 3 + 1]? = some x1) (h2 : cs[i * 3 + 2]? = some x2) : ∀ (j : Nat) (v : Value), [x0, x1, x2][j]? = some v → cs[i * 3 + j]? = some v := by
  intro j v hv
  match j, hv with
  | 0, hv => simp at hv; subst hv; exact h0
  | 1, hv => simp at hv; subst hv; exact h1
  | 2, hv => simp at hv; subst hv; exact h2
  | (k + 3), hv => simp at hv
theorem in_up {V : World} {d : Nat} {x : Nd} {vs : List Value} (h : InV V.heap.size V d x vs) (o : Obj) : InV (V.alloc o).heap.size (V.alloc o) d x vs :=
  (h.later ((Below.refl _ V).alloc (Nat.le_refl _) _) d).base (by simp) d
theorem in_one {V : World} {d : Nat} {x : Nd} {x0 x1 x2 : Value} (op : Int) (hx : InV V.heap.size V d x [x0, x1, x2]) : InV (V.alloc (.cells #[x0, x1, x2] 33)).heap.size (V.alloc (.cells #[x0, x1, x2] 33)) (d + 1) ⟨op, [], ofL [x]⟩ [.int .i64 op, .slice none 0 0, .slice (some ⟨V.heap.size, 0, none⟩) 1 1] :=
  InV.node op [x] V.heap.size 1 (heap_alloc_new V _) (by simp) (fun i hi => by
    have h0 : i = 0 := by simp at hi; exact hi
    subst h0
    exact ⟨_, in_up hx _, three_cells rfl rfl rfl⟩)
theorem in_pair {V : World} {d : Nat} {x y : Nd} {x0 x1 x2 y0 y1 y2 : Value} (op : Int) (hx : InV V.heap.size V d x [x0, x1, x2]) (hy : InV V.heap.size V d y [y0, y1, y2]) : InV (V.alloc (.cells #[x0, x1, x2, y0, y1, y2] 33)).heap.size (V.alloc (.cells #[x0, x1, x2, y0, y1, y2] 33)) (d + 1) ⟨op, [], ofL [x, y]⟩ [.int .i64 op, .slice none 0 0, .slice (some ⟨V.heap.size, 0, none⟩) 2 2] :=
  InV.node op [x, y] V.heap.size 2 (heap_alloc_new V _) (by simp) (fun i hi => by
    match i, hi with
    | 0, _ => exact ⟨_, in_up hx _, three_cells rfl rfl rfl⟩
    | 1, _ => exact ⟨_, in_up hy _, three_cells rfl rfl rfl⟩)
theorem in_three {V : World} {d : Nat} {x y z : Nd} {x0 x1 x2 y0 y1 y2 z0 z1 z2 : Value} (op : Int) (hx : InV V.heap.size V d x [x0, x1, x2]) (hy : InV V.heap.size V d y [y0, y1, y2]) (hz : InV V.heap.size V d z [z0, z1, z2]) : InV (V.alloc (.cells #[x0, x1, x2, y0, y1, y2, z0, z1, z2] 33)).heap.size (V.alloc (.cells #[x0, x1, x2, y0, y1, y2, z0, z1, z2] 33)) (d + 1) ⟨op, [], ofL [x, y, z]⟩ [.int .i64 op, .slice none 0 0, .slice (some ⟨V.heap.size, 0, none⟩) 3 3] :=
  InV.node op [x, y, z] V.heap.size 3 (heap_alloc_new V _) (by simp) (fun i hi => by
    match i, hi with
    | 0, _ => exact ⟨_, in_up hx _, three_cells rfl rfl rfl⟩
    | 1, _ => exact ⟨_, in_up hy _, three_cells rfl rfl rfl⟩
    | 2, _ => exact ⟨_, in_up hz _, three_cells rfl rfl rfl⟩)
/-! Which are right. -/
theorem okN_node (op : Int) (ns : List Nd) (d : Nat) (hr : rcB op ns.length = true) (hop : ¬ op = 1) (h : ∀ x, x ∈ ns → okN d x = true) : okN (d + 1) ⟨op, [], ofL ns⟩ = true := by
  simp only [okN, Bool.and_eq_true, List.all_eq_true]
  rw [toL_ofL]
  exact ⟨⟨hr, by simp [rclB, hop]⟩, h⟩
theorem cnt_node (op : Int) (ns : List Nd) : (⟨op, [], ofL ns⟩ : Nd).cnt = 1 + cntL ns := by
  rw [cnt_eq]
  show 1 + cntL (toL (ofL ns)) = _
  rw [toL_ofL]
theorem ok_mk {n : Nd} (h1 : okN 32 n = true) (h2 : n.cnt ≤ 400) : n.ok = true := by
  unfold Nd.ok; simp [h1, h2]
/-! What they fit. -/
theorem fits_node (op : Int) (ns : List Nd) (w : List Int) : (⟨op, [], ofL ns⟩ : Nd).fits w ↔ nodeL op [] (ns.map Nd.fits) w := by
  show nodeL op [] (fitF (ofL ns)) w ↔ _
  rw [fitF_map, toL_ofL]
theorem fits_seq (ns : List Nd) (w : List Int) : (⟨2, [], ofL ns⟩ : Nd).fits w ↔ seqL (ns.map Nd.fits) w := by rw [fits_node]; simp [nodeL]
theorem fits_alt (ns : List Nd) (w : List Int) : (⟨3, [], ofL ns⟩ : Nd).fits w ↔ ∃ n, n ∈ ns ∧ n.fits w := by
  rw [fits_node]
  show altL (ns.map Nd.fits) w ↔ _
  unfold altL
  constructor
  · rintro ⟨k, hk, h⟩
    obtain ⟨n, hn, rfl⟩ := List.mem_map.1 hk
    exact ⟨n, hn, h⟩
  · rintro ⟨n, hn, h⟩
    exact ⟨_, List.mem_map.2 ⟨n, hn, rfl⟩, h⟩
theorem fits_star (n : Nd) (w : List Int) : (⟨4, [], ofL [n]⟩ : Nd).fits w ↔ ∃ i, powL n.fits i w := by rw [fits_node]; simp [nodeL]
theorem fits_opt (n : Nd) (w : List Int) : (⟨5, [], ofL [n]⟩ : Nd).fits w ↔ w = [] ∨ n.fits w := by rw [fits_node]; simp [nodeL]
theorem seqL_two (k l : List Int → Prop) (w : List Int) : seqL [k, l] w ↔ ∃ u v, w = u ++ v ∧ k u ∧ l v := by
  simp only [seqL]
  constructor
  · rintro ⟨u, v, h1, h2, u', v', h3, h4, rfl⟩
    exact ⟨u, v, h1, h2, by rw [h3]; simpa using h4⟩
  · rintro ⟨u, v, h1, h2, h3⟩
    exact ⟨u, v, h1, h2, v, [], by simp, h3, rfl⟩
theorem cut_iff (k l : List Int → Prop) (w : List Int) : (∃ u v, w = u ++ v ∧ k u ∧ l v) ↔ ∃ i, i ≤ w.length ∧ k (w.take i) ∧ l (w.drop i) := by
  constructor
  · rintro ⟨u, v, rfl, h1, h2⟩
    exact ⟨u.length, by simp, by simpa using h1, by simpa using h2⟩
  · rintro ⟨i, _, h1, h2⟩
    exact ⟨w.take i, w.drop i, by simp, h1, h2⟩
theorem star_twice (k : List Int → Prop) (w : List Int) : (∃ i, powL k i w) ↔ (∃ u v, w = u ++ v ∧ k u ∧ ∃ i, powL k i v) ∨ w = [] := by
  constructor
  · rintro ⟨i, h⟩
    cases i with
    | zero => exact .inr h
    | succ i =>
      obtain ⟨u, v, h1, h2, h3⟩ := h
      exact .inl ⟨u, v, h1, h2, i, h3⟩
  · rintro (⟨u, v, h1, h2, i, h3⟩ | rfl)
    · exact ⟨i + 1, u, v, h1, h2, h3⟩
    · exact ⟨0, rfl⟩

/-! Rows cut. -/
theorem cutI (a : Option Addr) (len cap n : Nat) (h : n ≤ cap) (W : World) : (Instr.slice 23 (.slice a len cap) none (some (.int .i64 n)) none).run Try.prog W = .ok (.slice a n cap) W := by
  have h0 : (0 : Int) ≤ (n : Int) := by omega
  have h1 : (n : Int) ≤ (cap : Int) := by omega
  go_simp
theorem cutI_from {a : Option Addr} {len cap : Nat} (lo : Nat) (h2 : lo ≤ len) (h3 : len ≤ cap) : ∃ a', (∀ W, (Instr.slice 23 (.slice a len cap) (some (.int .i64 lo)) none none).run Try.prog W = .ok (.slice a' (len - lo) (cap - lo)) W) ∧ ∀ (w : World) (xs : List Int), Rd .i64 w a len xs → Rd .i64 w a' (len - lo) (xs.drop lo) := by
  refine ⟨if cap = lo then a else a.map (·.add lo), fun W => ?_, fun w xs h => ⟨by have := h.1; simp; omega, fun hp => ?_⟩⟩
  · have g0 : (0 : Int) ≤ (lo : Int) := by omega
    have g1 : (lo : Int) ≤ (len : Int) := by omega
    go_simp
  · obtain ⟨b, off, rfl, hc⟩ := h.2 (by omega)
    rw [if_neg (by omega)]
    refine ⟨b, off + lo, by simp [add_lit], fun i hi' => ?_⟩
    rw [show off + lo + i = off + (lo + i) by omega, hc (lo + i) (by omega)]
    simp
end Go.Proofs.Ytjbhfonokgkalaa
