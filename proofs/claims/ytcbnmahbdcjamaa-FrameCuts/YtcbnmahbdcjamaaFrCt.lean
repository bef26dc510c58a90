/- FrameCuts: frames in rows, as they come in and as the call's own. -/
import Derived.Test.YtcbnmahbdcjamaaFrQ
import Derived.Test.YtcbnmahbdcjamaaFrameSpanW
import Derived.Deep.AppendLies
namespace Go.Proofs.Ytcbnmahbdcjamaa
open Go.ChangeShapes Go.WideShapes Go.ChangeAt Go.RowKit Go.Sort
set_option linter.unusedVariables false
set_option linter.unusedSimpArgs false

/-- A frame and where its rows lie. -/
structure FE where
  f : Frm
  va : Option Addr
  vn : Nat
  vc : Nat
  oa : Option Addr
  on : Nat
  oc : Nat
def fe0 : FE := ⟨⟨0, 0, [], [], 0⟩, none, 0, 0, none, 0, 0⟩
def encFE (p : FE) : List Value := [.int .i64 p.f.kind, .int .i64 p.f.fr, .slice p.va p.vn p.vc, .slice p.oa p.on p.oc, .int .i64 p.f.next]
abbrev FE.val (p : FE) : Value := .agg #[.int .i64 p.f.kind, .int .i64 p.f.fr, .slice p.va p.vn p.vc, .slice p.oa p.on p.oc, .int .i64 p.f.next]
def RowsAt (W : World) (p : FE) : Prop := RdE W p.va p.vn p.f.vec ∧ RdP W p.oa p.on p.f.ops ∧ p.vn ≤ p.vc ∧ p.on ≤ p.oc ∧ (p.va = none → p.vc = 0) ∧ (p.oa = none → p.oc = 0)
theorem RowsAt.atC {W : World} {p : FE} (h : RowsAt W p) : FrAtC W p.val p.f := ⟨_, _, _, _, _, _, rfl, h.1, h.2.1, h.2.2.1, h.2.2.2.1, h.2.2.2.2.1, h.2.2.2.2.2⟩
theorem RowsAt.at {W : World} {p : FE} (h : RowsAt W p) : FrAt W p.val p.f := h.atC.at
theorem RowsAt.later {W W' : World} {p : FE} (h : RowsAt W p) (hb : Below W.heap.size W W') : RowsAt W' p := ⟨h.1.later hb, h.2.1.later hb, h.2.2⟩
/-- The blocks of a frame's rows. -/
def RowB (p : FE) (k : Nat) : Prop := (0 < p.vn ∧ ∃ x, p.va = some x ∧ k = x.block) ∨ (0 < p.on ∧ ∃ x, p.oa = some x ∧ k = x.block)
theorem RowsAt.lt {W : World} {p : FE} (h : RowsAt W p) {k : Nat} (hk : RowB p k) : k < W.heap.size := by
  rcases hk with ⟨hn, x, hx, rfl⟩ | ⟨hn, x, hx, rfl⟩
  · obtain ⟨b, off, e, c0, _⟩ := h.1.at 0 hn
    rw [hx] at e; cases e
    exact World.block_lt_of_cell? W _ c0
  · obtain ⟨b, off, e, c0, _⟩ := h.2.1.at 0 hn
    rw [hx] at e; cases e
    exact World.block_lt_of_cell? W _ c0
theorem cell_keepC {w W : World} {p : Addr} {v : Value} (h : W.heap[p.block]? = w.heap[p.block]?) (hc : w.cell? p = some v) : W.cell? p = some v := (World.cell?_of_block h).trans hc
theorem RowsAt.keep {W W' : World} {p : FE} (h : RowsAt W p) (hh : ∀ k, RowB p k → W'.heap[k]? = W.heap[k]?) : RowsAt W' p := by
  obtain ⟨h1, h2, h3⟩ := h
  refine ⟨⟨h1.1, fun hp => ?_⟩, ⟨h2.1, fun hp => ?_⟩, h3⟩
  · obtain ⟨b, off, e, hc⟩ := h1.2 hp
    exact ⟨b, off, e, fun j u hu => cell_keepC (hh b (.inl ⟨hp, _, e, rfl⟩)) (hc j u hu)⟩
  · obtain ⟨b, off, e, hc⟩ := h2.2 hp
    exact ⟨b, off, e, fun j u hu => cell_keepC (hh b (.inr ⟨hp, _, e, rfl⟩)) (hc j u hu)⟩
/-- Rows of frames. -/
def RdFs (W : World) (a : Option Addr) (n : Nat) (L : List FE) : Prop :=
  L.length = n ∧ (0 < n → ∃ b off, a = some ⟨b, off, none⟩ ∧ ∀ i, i < n → ∀ j u, (encFE (L.getD i fe0))[j]? = some u → W.cell? ⟨b, off + (i * 5 + j), none⟩ = some u) ∧ ∀ p ∈ L, RowsAt W p
theorem RdFs.later {W W' : World} {a : Option Addr} {n : Nat} {L : List FE} (h : RdFs W a n L) (hb : Below W.heap.size W W') : RdFs W' a n L := by
  refine ⟨h.1, fun hp => ?_, fun p hp => (h.2.2 p hp).later hb⟩
  obtain ⟨b, off, ha, hc⟩ := h.2.1 hp
  exact ⟨b, off, ha, fun i hi j u hu => (hb.cell (World.block_lt_of_cell? W _ (hc i hi j u hu))).trans (hc i hi j u hu)⟩
theorem RdFs.at {W : World} {a : Option Addr} {n : Nat} {L : List FE} (h : RdFs W a n L) (i : Nat) (hi : i < n) : ∃ b off, a = some ⟨b, off, none⟩ ∧ (W.cell? ⟨b, off + i * 5, none⟩ = some (.int .i64 (L.getD i fe0).f.kind) ∧ W.cell? ⟨b, off + i * 5 + 1, none⟩ = some (.int .i64 (L.getD i fe0).f.fr) ∧ W.cell? ⟨b, off + i * 5 + 2, none⟩ = some (.slice (L.getD i fe0).va (L.getD i fe0).vn (L.getD i fe0).vc) ∧ W.cell? ⟨b, off + i * 5 + 3, none⟩ = some (.slice (L.getD i fe0).oa (L.getD i fe0).on (L.getD i fe0).oc) ∧ W.cell? ⟨b, off + i * 5 + 4, none⟩ = some (.int .i64 (L.getD i fe0).f.next)) ∧ RowsAt W (L.getD i fe0) := by
  obtain ⟨b, off, ha, hc⟩ := h.2.1 (by omega)
  have hh := hc i hi
  refine ⟨b, off, ha, ⟨hh 0 _ rfl, hh 1 _ rfl, hh 2 _ rfl, hh 3 _ rfl, hh 4 _ rfl⟩, h.2.2 _ ?_⟩
  have := h.1
  simp [List.getD, List.getElem?_eq_getElem (show i < L.length by omega)]
theorem flatFE_len : (L : List FE) → (L.flatMap encFE).length = 5 * L.length
  | [] => rfl
  | x :: r => by rw [List.flatMap_cons, List.length_append, flatFE_len r, List.length_cons]; show 5 + _ = _; omega
theorem flatFE_at : (L : List FE) → (i : Nat) → i < L.length → ∀ j, j < 5 → (L.flatMap encFE)[i * 5 + j]? = (encFE (L.getD i fe0))[j]?
  | [], i, h, _, _ => by simp at h
  | x :: r, 0, _, j, hj => by
    rw [List.flatMap_cons, Nat.zero_mul, Nat.zero_add, List.getElem?_append_left (by show j < 5; exact hj)]
    rfl
  | x :: r, i + 1, h, j, hj => by
    have ih := flatFE_at r i (by simpa using h) j hj
    rw [List.flatMap_cons, List.getElem?_append_right (by show 5 ≤ _; omega), show (i + 1) * 5 + j - (encFE x).length = i * 5 + j by show (i + 1) * 5 + j - 5 = _; omega, ih]
    simp
theorem encFE_one (p : FE) : ∀ v ∈ encFE p, v.oneCell' = true := by
  intro v hv
  simp only [encFE, List.mem_cons, List.not_mem_nil, or_false] at hv
  rcases hv with rfl | rfl | rfl | rfl | rfl <;> rfl
/-- A row of the call's own reads as frames. -/
theorem rdFs_own {W : World} {B n c : Nat} {a : Option Addr} {L : List FE} (h : W.ownsRow B 51 5 (.slice a n c) n (L.flatMap encFE)) (hr : ∀ p ∈ L, RowsAt W p) : RdFs W a n L := by
  have hl : L.length = n := by have := h.1; rw [flatFE_len] at this; omega
  refine ⟨hl, fun hp => ?_, hr⟩
  rcases h.2 with ⟨_, h0⟩ | ⟨g, cap, cur, hv, hb, hg, hn, hm, hs, ht⟩
  · omega
  · cases hv
    refine ⟨g, 0, rfl, fun i hi j u hu => ?_⟩
    have hj : j < 5 := by
      have := (List.getElem?_eq_some_iff.1 hu).1
      exact this
    rw [Nat.zero_add, cell_of_row W g (i * 5 + j) _ _ _ hg, ← hu, ← flatFE_at L i (by omega) j hj, ← ht, List.getElem?_take, if_pos (by omega)]
    simp
/-- In the first loop: the bytes, the frames, and more frames' rows, all apart. -/
def LpA (w W : World) (va vo : Value) (bs : List Int) (L K : List FE) : Prop :=
  Below w.heap.size w W ∧ W.ownsRow w.heap.size 5 1 va bs.length (bs.map (Value.int .u8)) ∧ W.ownsRow w.heap.size 51 5 vo L.length (L.flatMap encFE) ∧ ∀ p ∈ K, RowsAt W p ∧ ∀ k, RowB p k → va.ownBlock ≠ some k ∧ vo.ownBlock ≠ some k
theorem LpA.later {w W W' : World} {va vo : Value} {bs : List Int} {L K : List FE} (h : LpA w W va vo bs L K) (hb : Below W.heap.size W W') : LpA w W' va vo bs L K :=
  ⟨h.1.trans (hb.mono h.1.size), cg_own (cg_below hb (fun _ => False)) h.2.1 (fun _ _ q => q), cg_own (cg_below hb (fun _ => False)) h.2.2.1 (fun _ _ q => q), fun p hp => ⟨(h.2.2.2 p hp).1.later hb, (h.2.2.2 p hp).2⟩⟩
theorem LpA.fewer {w W : World} {va vo : Value} {bs : List Int} {L K K' : List FE} (h : LpA w W va vo bs L K) (hk : ∀ p ∈ K', p ∈ K) : LpA w W va vo bs L K' := ⟨h.1, h.2.1, h.2.2.1, fun p hp => h.2.2.2 p (hk p hp)⟩
/-- A frame more, whose rows lie behind all of it. -/
theorem LpA.more {w W W' : World} {va vo : Value} {bs : List Int} {L K : List FE} {p : FE} (h : LpA w W va vo bs L K) (hb : Below W.heap.size W W') (hp : RowsAt W' p) (hn : ∀ k, RowB p k → W.heap.size ≤ k) : LpA w W' va vo bs L (K ++ [p]) := by
  have h2 := h.later hb
  refine ⟨h2.1, h2.2.1, h2.2.2.1, fun q hq => ?_⟩
  rcases List.mem_append.1 hq with hq | hq
  · exact h2.2.2.2 q hq
  · rw [List.mem_singleton.1 hq]
    refine ⟨hp, fun k hk => ⟨fun e => ?_, fun e => ?_⟩⟩
    · have := (h.2.1.lt k e).2; have := hn k hk; omega
    · have := (h.2.2.1.lt k e).2; have := hn k hk; omega
theorem own_apart {W : World} {B n m s t : Nat} {e f : TypeId} {v u : Value} {xs ys : List Value} (h1 : W.ownsRow B e s v n xs) (h2 : W.ownsRow B f t u m ys) (hne : e ≠ f) {k : Nat} (hk : v.ownBlock = some k) : u.ownBlock ≠ some k := by
  intro hu
  rcases h1.2 with ⟨rfl, _⟩ | ⟨g, cap, cur, rfl, _, hg, _⟩
  · cases hk
  · rcases h2.2 with ⟨rfl, _⟩ | ⟨g2, cap2, cur2, rfl, _, hg2, _⟩
    · cases hu
    · obtain rfl : g = k := Option.some.inj hk
      obtain rfl : g2 = g := Option.some.inj hu
      rw [hg] at hg2
      cases hg2
      exact hne rfl
theorem lpa_all {w W W' : World} {va vo : Value} {bs ys : List Int} {L K : List FE} {g c n : Nat} (h : LpA w W va vo bs L K) (hn : n = (bs ++ ys).length) (ho : W'.ownsRow w.heap.size 5 1 (.slice (some ⟨g, 0, none⟩) n c) n ((bs ++ ys).map (Value.int .u8))) (hg : W.grownBy W' va.ownBlock) (hl : va.ownBlock = some g ∨ g = W.heap.size) : LpA w W' (.slice (some ⟨g, 0, none⟩) n c) vo (bs ++ ys) L K := by
  subst hn
  have hc := cg_gb hg
  refine ⟨h.1.trans (cg_bel hc h.1.size (fun k hk => (h.2.1.lt k hk).1)), ho, cg_own hc h.2.2.1 (fun k hk q => own_apart h.2.1 h.2.2.1 (by decide) q hk), fun p hp => ⟨(h.2.2.2 p hp).1.keep (fun k hk => hc.2.2.2.2 k ((h.2.2.2 p hp).1.lt hk) ((h.2.2.2 p hp).2 k hk).1), fun k hk => ⟨fun e => ?_, ((h.2.2.2 p hp).2 k hk).2⟩⟩⟩
  obtain rfl : g = k := Option.some.inj e
  rcases hl with hl | hl
  · exact ((h.2.2.2 p hp).2 g hk).1 hl
  · have := (h.2.2.2 p hp).1.lt hk; omega
theorem lpa_own {w W W' : World} {va vo : Value} {bs : List Int} {L K : List FE} {p : FE} {g c : Nat} {o : Obj} (h : LpA w W va vo bs L K) (ho : W'.ownsRow w.heap.size 51 5 (.slice (some ⟨g, 0, none⟩) (L.length + 1) c) (L.length + 1) (L.flatMap encFE ++ encFE p)) (hg : (W.alloc o).grownBy W' vo.ownBlock) (hl : vo.ownBlock = some g ∨ g = (W.alloc o).heap.size) : LpA w W' va (.slice (some ⟨g, 0, none⟩) (L ++ [p]).length c) bs (L ++ [p]) K := by
  have h2 := h.later ((Below.refl _ W).alloc (Nat.le_refl _) o)
  have hc := cg_gb hg
  have e1 : (L ++ [p]).length = L.length + 1 := by simp
  have e2 : (L ++ [p]).flatMap encFE = L.flatMap encFE ++ encFE p := by simp
  refine ⟨h2.1.trans (cg_bel hc h2.1.size (fun k hk => (h2.2.2.1.lt k hk).1)), cg_own hc h2.2.1 (fun k hk q => own_apart h2.2.1 h2.2.2.1 (by decide) hk q), by rw [e1, e2]; exact ho, fun q hq => ⟨(h2.2.2.2 q hq).1.keep (fun k hk => hc.2.2.2.2 k ((h2.2.2.2 q hq).1.lt hk) ((h2.2.2.2 q hq).2 k hk).2), fun k hk => ⟨((h2.2.2.2 q hq).2 k hk).1, fun e => ?_⟩⟩⟩
  obtain rfl : g = k := Option.some.inj e
  rcases hl with hl | hl
  · exact ((h2.2.2.2 q hq).2 g hk).2 hl
  · have := (h2.2.2.2 q hq).1.lt hk; omega
set_option maxRecDepth 100000 in
theorem fe_cells {H : Type} {enc : TypeId × Value → H} {W : World} {fuel : Nat} {cl : List Value} {x : DataW H × List MemPlace} (hf : DataW.trod enc Try.prog W 0 (fun _ => true) true fuel 51 cl = some x) : ∃ p : FE, cl = encFE p ∧ RowsAt W p := by
  obtain ⟨xs, k, rfl, hxy, hlen, hxl, hfl⟩ := DataW.trod_struct Try.underlying51 hf
  have ci : Try.prog.cellsOf 3 = 1 := by kernel_rfl
  have ce : Try.prog.cellsOf 42 = 1 := by kernel_rfl
  have co : Try.prog.cellsOf 22 = 1 := by kernel_rfl
  have cr : Try.prog.cellsOf 51 = 5 := by kernel_rfl
  rw [cr] at hlen
  have hx5 : xs.length = 5 := hxl
  obtain ⟨v0, v1, v2, v3, v4, hc5⟩ : ∃ v0 v1 v2 v3 v4, cl = [v0, v1, v2, v3, v4] := by
    rcases cl with _ | ⟨v0, _ | ⟨v1, _ | ⟨v2, _ | ⟨v3, _ | ⟨v4, _ | ⟨v5, r⟩⟩⟩⟩⟩⟩
    all_goals first | exact ⟨_, _, _, _, _, rfl⟩ | (simp at hlen)
  subst hc5
  obtain ⟨y0, y1, y2, y3, y4, rfl⟩ : ∃ y0 y1 y2 y3 y4, xs = [y0, y1, y2, y3, y4] := by
    rcases xs with _ | ⟨v0, _ | ⟨v1, _ | ⟨v2, _ | ⟨v3, _ | ⟨v4, _ | ⟨v5, r⟩⟩⟩⟩⟩⟩
    all_goals first | exact ⟨_, _, _, _, _, rfl⟩ | (simp at hx5)
  have g0 := hfl 0 _ rfl
  have g1 := hfl 1 _ rfl
  have g2 := hfl 2 _ rfl
  have g3 := hfl 3 _ rfl
  have g4 := hfl 4 _ rfl
  simp [ci, ce, co] at g0 g1 g2 g3 g4
  obtain ⟨fk, e0, _⟩ := DataW.trod_int Try.underlying3 g0
  obtain ⟨ff, e1, _⟩ := DataW.trod_int Try.underlying3 g1
  obtain ⟨fx, e4, _⟩ := DataW.trod_int Try.underlying3 g4
  have e2 : ∃ a l c, v2 = .slice a l c := by
    rcases Go.Deep.open_slice Try.underlying42 g2 with ⟨hcs, _⟩ | ⟨x, l, c, m, n, D, Pl, hcs, _⟩
    · simp at hcs; exact ⟨_, _, _, hcs⟩
    · simp at hcs; exact ⟨_, _, _, hcs⟩
  have e3 : ∃ a l c, v3 = .slice a l c := by
    rcases Go.Deep.open_slice Try.underlying22 g3 with ⟨hcs, _⟩ | ⟨x, l, c, m, n, D, Pl, hcs, _⟩
    · simp at hcs; exact ⟨_, _, _, hcs⟩
    · simp at hcs; exact ⟨_, _, _, hcs⟩
  obtain ⟨va, vn, vc, rfl⟩ := e2
  obtain ⟨oa, on, oc, rfl⟩ := e3
  obtain ⟨rs, hre, hr1, _, hr2⟩ := open_entries (H := H) (enc := enc) (W := W) (a := va) (len := vn) (cap := vc) ⟨_, g2⟩
  obtain ⟨os, hrp, hr3, _⟩ := open_ops14 (H := H) (enc := enc) (W := W) (a := oa) (len := on) (cap := oc) ⟨_, g3⟩
  have hr4 := none_ops (H := H) (enc := enc) (W := W) (a := oa) (len := on) (cap := oc) ⟨_, g3⟩
  simp at e0 e1 e4
  subst e0 e1 e4
  exact ⟨⟨⟨fk, ff, rs, os, fx⟩, va, vn, vc, oa, on, oc⟩, rfl, hre, hrp, hr1, hr3, hr2, hr4⟩
theorem open_frames {H : Type} {enc : TypeId × Value → H} {W : World} {a : Option Addr} {len cap : Nat} {d : DataW H} {p : List MemPlace} (h : DataW.Trod enc Try.prog W 0 (fun _ => true) true 63 (.slice a len cap) d p) :
    ∃ L : List FE, RdFs W a len L ∧ len ≤ cap ∧ cap ≤ 9223372036854775807 := by
  obtain ⟨fuel, hf⟩ := h
  rcases Go.Deep.open_slice Try.underlying63 hf with ⟨hcs, _⟩ | ⟨x, l, c, m, n, D, Pl, hcs, _, hl, hm, hmm, _, hx⟩
  · simp [Value.cells] at hcs
    obtain ⟨rfl, rfl, rfl⟩ := hcs
    exact ⟨[], ⟨rfl, fun h => absurd h (by omega), fun p hp => by cases hp⟩, by omega, by omega⟩
  · simp [Value.cells] at hcs
    obtain ⟨rfl, rfl, rfl⟩ := hcs
    have hml : len ≤ m := by rw [hmm]; split <;> omega
    have hce : Try.prog.cellsOf 51 = 5 := by kernel_rfl
    rw [hce] at hx
    haveI : Inhabited FE := ⟨fe0⟩
    have each : ∀ i, i < len → ∃ o : FE, (∀ j u, (encFE o)[j]? = some u → W.cell? (x.add (i * 5 + j)) = some u) ∧ RowsAt W o := by
      intro i hi
      obtain ⟨cs', h1, h2⟩ := hx i (by omega)
      obtain ⟨_, hlen, hcell⟩ := World.cells?_some h1
      obtain ⟨o, rfl, ho⟩ := fe_cells h2
      refine ⟨o, fun j u hu => ?_, ho⟩
      have hj : j < 5 := (List.getElem?_eq_some_iff.1 hu).1
      have := hcell j hj
      rw [Go.Deep.add_add] at this
      rw [this]; exact hu
    obtain ⟨R, hR⟩ := Go.Deep.choose_lt each
    have hat : ∀ i, i < len → ((List.range len).map R).getD i fe0 = R i := fun i hi => by simp [hi]
    refine ⟨(List.range len).map R, ⟨by simp, fun hp => ?_, fun p hp => ?_⟩, hl, by simpa [maxLen] using hm⟩
    · obtain ⟨b, off, rfl⟩ : ∃ b off, x = ⟨b, off, none⟩ := by
        obtain ⟨b, off, spot⟩ := x
        have h30 := (hR 0 hp).1 0 (.int .i64 (R 0).f.kind) rfl
        have hs : spot = none := by simpa [Addr.add] using World.cell?_spot h30
        exact ⟨b, off, by rw [hs]⟩
      refine ⟨b, off, rfl, fun i hi j u hu => ?_⟩
      rw [hat i hi] at hu
      have := (hR i hi).1 j u hu
      rw [add_lit14] at this
      exact this
    · obtain ⟨i, hi, rfl⟩ := List.mem_map.1 hp
      exact (hR i (List.mem_range.1 hi)).2
end Go.Proofs.Ytcbnmahbdcjamaa
