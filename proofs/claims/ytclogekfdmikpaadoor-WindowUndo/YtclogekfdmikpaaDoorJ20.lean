/- In one text: DfaMa, DfaMb, DfaMc. -/
import Derived.Test.YtclogekfdmikpaaDoorJ17
import Derived.Test.YtclogekfdmikpaaDoorJ18
import Derived.Test.YtclogekfdmikpaaDoorJ19
/- What meet keeps in memory, of spots. -/
namespace Go.Proofs.YtclogekfdmikpaaDoor
open Go.RowKit Go.Shelf Go.Maps
set_option linter.unusedVariables false
set_option linter.unusedSimpArgs false

theorem step_sp (w : World) (bp : Nat) (s : Sp) (wh : Bool) (l : Pl) (x : Nat × Bool) (c : Nat) (hc : c < 24) (hT : TabD w) (h : PlanR w bp s wh l) :
 Calls Tryd.prog 66 #[.pointer (some ⟨bp, 0, none⟩), spV x, .int .i64 (c : Int)] w fun e w' => e = .returned (spV (stepS wh s l x (Int.ofNat c))) ∧ Below w.heap.size w w' := by
 cases wh with
 | true => exact step_true w bp s l x c hc hT h
 | false => exact step_false w bp s l x c hc hT h
def Rch {S : Type} (K : Nat) (step : S → Nat → S) (first x : S) : Prop := ∃ w : List Nat, (∀ c, c ∈ w → c < K) ∧ x = w.foldl step first
theorem Rch.one {S : Type} (K : Nat) (step : S → Nat → S) (first : S) : Rch K step first first := ⟨[], by simp, rfl⟩
theorem Rch.next {S : Type} {K : Nat} {step : S → Nat → S} {first x : S} (h : Rch K step first x) {c : Nat} (hc : c < K) : Rch K step first (step x c) := by
 obtain ⟨w, h1, rfl⟩ := h
 refine ⟨w ++ [c], fun d hd => ?_, by simp⟩
 rcases List.mem_append.1 hd with hd | hd
 ·exact h1 d hd
 ·rw [List.mem_singleton.1 hd]; exact hc
def TooMany {S : Type} (K : Nat) (step : S → Nat → S) (first : S) : Prop := ∃ L : List S, L.Nodup ∧ L.length = 2001 ∧ ∀ x, x ∈ L → Rch K step first x
theorem num_met {S : Type} {T : TypeId} {B : Nat} {lit : S → Lit} {M : List S} {y : S} {w w' : World} {e : Ending} (hinj : ∀ x, x ∈ M → lit x = lit y → x = y) (h : NumP T B (M.map lit) (lit y) w e w') :
 ∃ i : Nat, e = .returned (.int .i64 (i : Int)) ∧ w.grownBy w' (some B) ∧ ((M[i]? = some y ∧ i < M.length ∧ w'.ownsMap Tryd.prog T (plainElem (H := Unit) Tryd.prog 3) B M.length (kD (M.map lit)) ∧ Keysy (M.map lit)) ∨
   (y ∉ M ∧ i = M.length ∧ w'.ownsMap Tryd.prog T (plainElem (H := Unit) Tryd.prog 3) B (M ++ [y]).length (kD ((M ++ [y]).map lit)) ∧ Keysy ((M ++ [y]).map lit))) := by
 obtain ⟨i, ks', he, hown, hg, hks, hi, hor⟩ := h
 refine ⟨i, he, hg, ?_⟩
 rcases hor with ⟨rfl, hlt⟩ | ⟨hn, rfl, rfl⟩
 ·rw [List.length_map] at hlt hown
  left
  refine ⟨?_, hlt, hown, hks⟩
  rw [List.getElem?_map] at hi
  obtain ⟨x, hx, hl⟩ := Option.map_eq_some_iff.1 hi
  rw [hx, hinj x (List.mem_of_getElem? hx) hl]
 ·right
  have e1 : M.map lit ++ [lit y] = (M ++ [y]).map lit := by simp
  rw [e1] at hown hks
  rw [List.length_map] at hown
  exact ⟨fun hm => hn (List.mem_map.2 ⟨y, hm, rfl⟩), by simp, hown, hks⟩
def spFlat (M : List (Nat × Bool)) : List Value := M.flatMap (fun x => (spC x.1 x.2).toList)
theorem spFlat_get : (M : List (Nat × Bool)) → (a j : Nat) → (x : Nat × Bool) → M[a]? = some x → j < 8 → (spFlat M)[a * 8 + j]? = (spC x.1 x.2)[j]?
 | y :: M, 0, j, x, h, hj => by
   simp at h
   subst h
   show ((spC y.1 y.2).toList ++ spFlat M)[0 * 8 + j]? = _
   rw [List.getElem?_append_left (by show _ < 8; omega), Nat.zero_mul, Nat.zero_add, Array.getElem?_toList]
 | y :: M, a + 1, j, x, h, hj => by
   show ((spC y.1 y.2).toList ++ spFlat M)[(a + 1) * 8 + j]? = _
   rw [List.getElem?_append_right (by show 8 ≤ _; omega), show (a + 1) * 8 + j - (spC y.1 y.2).toList.length = a * 8 + j by show _ - 8 = _; omega]
   exact spFlat_get M a j x (by simpa using h) hj
 | [], a, j, x, h, hj => by simp at h
theorem spFlat_snoc (M : List (Nat × Bool)) (x : Nat × Bool) : spFlat (M ++ [x]) = spFlat M ++ (spC x.1 x.2).toList := by simp [spFlat]
def litS (x : Nat × Bool) : Lit := .string (tS (sx x.2 (wds7 x.1))).data.toList
def BdS (x : Nat × Bool) : Prop := ∀ p, x.1.testBit p = true → p < 448
theorem wds7_inj {S T : Nat} (hS : ∀ p, S.testBit p = true → p < 448) (hT : ∀ p, T.testBit p = true → p < 448) (h : wds7 S = wds7 T) : S = T := by
 have hw : ∀ i, i < 7 → nw S i = nw T i := fun i hi => by
  have h1 : (wds7 S)[i]? = (wds7 T)[i]? := by rw [h]
  simpa [wds7, hi] using h1
 apply Nat.eq_of_testBit_eq
 intro p
 by_cases hp : p < 448
 ·have h1 := nw_bit S (p / 64) (p % 64)
  have h2 := nw_bit T (p / 64) (p % 64)
  rw [show 64 * (p / 64) + p % 64 = p by omega, decide_eq_true (show p % 64 < 64 by omega), Bool.true_and] at h1 h2
  rw [← h1, ← h2, hw (p / 64) (by omega)]
 ·have h1 : S.testBit p = false := by rw [Bool.eq_false_iff]; exact fun e => hp (hS p e)
  have h2 : T.testBit p = false := by rw [Bool.eq_false_iff]; exact fun e => hp (hT p e)
  rw [h1, h2]
theorem litS_inj {x y : Nat × Bool} (hx : BdS x) (hy : BdS y) (h : litS x = litS y) : x = y := by
 have h1 := tS_inj (sx_rng _ _ (wds7_lt _)) (sx_rng _ _ (wds7_lt _)) (Go.Lit.string.inj h)
 obtain ⟨h2, h3⟩ := sx_inj (wds7_lt _) (wds7_lt _) (by simp [wds7]) h1
 exact Prod.ext (wds7_inj hx hy h3) h2
theorem ne_ty {w : World} {a b : Nat} {c1 c2 : Array Value} {t1 t2 : TypeId} {f1 f2 : Nat × Nat} (h1 : w.heap[a]? = some (.cells c1 t1 f1)) (h2 : w.heap[b]? = some (.cells c2 t2 f2)) (ht : t1 ≠ t2) : a ≠ b := fun e => by
 subst e
 rw [h1] at h2
 exact ht (cells_ty h2)
theorem map_blk {w : World} {P : Program} {k : TypeId} {R : Value → Option (DataW Unit × List MemPlace)} {b n : Nat} {D : DataW Unit} (h : w.ownsMap P k R b n D) : ∃ es c, w.heap[b]? = some (.map es c) := by
 obtain ⟨es, c, h1, _⟩ := h
 exact ⟨es, c, h1⟩
theorem ne_map {w : World} {P : Program} {k : TypeId} {R : Value → Option (DataW Unit × List MemPlace)} {b n : Nat} {D : DataW Unit} (h : w.ownsMap P k R b n D) {a : Nat} {c1 : Array Value} {t1 : TypeId} {f1 : Nat × Nat} (h1 : w.heap[a]? = some (.cells c1 t1 f1)) : a ≠ b := fun e => by
 obtain ⟨es, c, h2⟩ := map_blk h
 subst e
 rw [h1] at h2
 cases h2
def rowV (K b : Nat) : Value := .slice (some ⟨b, 0, none⟩) K K
def NxAt (B0 : Nat) (wr : World) (K X : Nat) (v9 : Value) (nx : List (List Nat)) : Prop :=
 ∃ bs : List Nat, bs.length = nx.length ∧ wr.ownsRow B0 26 1 v9 nx.length (bs.map (rowV K)) ∧ ∀ (i b : Nat) (r : List Nat), bs[i]? = some b → nx[i]? = some r → IRow wr b r ∧ b < X
theorem NxAt.nil (B0 : Nat) (wr : World) (K X : Nat) : NxAt B0 wr K X (.slice none 0 0) [] := ⟨[], rfl, ⟨rfl, .inl ⟨rfl, rfl⟩⟩, fun i b r h => by simp at h⟩
theorem NxAt.later {B0 : Nat} {w w' : World} {K X : Nat} {v9 : Value} {nx : List (List Nat)} (h : NxAt B0 w K X v9 nx) (hb : Below w.heap.size w w') : NxAt B0 w' K X v9 nx := by
 obtain ⟨bs, h1, h2, h3⟩ := h
 exact ⟨bs, h1, own_later5 h2 hb, fun i b r hi hr => ⟨(h3 i b r hi hr).1.later hb, (h3 i b r hi hr).2⟩⟩
theorem NxAt.up {B0 : Nat} {w : World} {K X X' : Nat} {v9 : Value} {nx : List (List Nat)} (h : NxAt B0 w K X v9 nx) (hX : X ≤ X') : NxAt B0 w K X' v9 nx := by
 obtain ⟨bs, h1, h2, h3⟩ := h
 exact ⟨bs, h1, h2, fun i b r hi hr => ⟨(h3 i b r hi hr).1, Nat.lt_of_lt_of_le (h3 i b r hi hr).2 hX⟩⟩
theorem NxAt.kept {B0 : Nat} {w w' : World} {K X : Nat} {v9 : Value} {nx : List (List Nat)} {g : Nat} (h : NxAt B0 w K X v9 nx) (hg : w.grownBy w' (some g)) (h9 : v9.ownBlock ≠ some g) (hr : ∀ b r, IRow w b r → b < X → b ≠ g) : NxAt B0 w' K X v9 nx := by
 obtain ⟨bs, h1, h2, h3⟩ := h
 exact ⟨bs, h1, h2.kept hg (.inr h9), fun i b r hi hri => ⟨(h3 i b r hi hri).1.grown hg (hr b r (h3 i b r hi hri).1 (h3 i b r hi hri).2), (h3 i b r hi hri).2⟩⟩
theorem nx_snoc {B0 : Nat} {w w' : World} {K X X' : Nat} {v9 v' : Value} {nx : List (List Nat)} {R : Nat} {r : List Nat} {bs : List Nat} (h1 : bs.length = nx.length) (h2 : w.ownsRow B0 26 1 v9 nx.length (bs.map (rowV K))) (h3 : ∀ (i b : Nat) (r : List Nat), bs[i]? = some b → nx[i]? = some r → IRow w b r ∧ b < X) (hX : X ≤ X') (hR : IRow w R r) (hRX : R < X') (hg : w.grownBy w' v9.ownBlock)
 (ho : w'.ownsRow B0 26 1 v' (nx.length + 1) (bs.map (rowV K) ++ [rowV K R])) : NxAt B0 w' K X' v' (nx ++ [r]) := by
 have hrow : ∀ b q, IRow w b q → IRow w' b q := fun b q hb => by
  refine (hg.block b hb.lt (fun e => ?_)).trans hb
  obtain ⟨_, _, cur, hc⟩ := own_lt h2 e.symm
  exact ne_ty hc hb (by decide) rfl
 refine ⟨bs ++ [R], by simp [h1], ?_, fun i b q hi hq => ?_⟩
 ·rw [List.length_append]
  simpa using ho
 ·rcases Nat.lt_or_ge i bs.length with hl | hl
  ·rw [List.getElem?_append_left hl] at hi
   rw [List.getElem?_append_left (by omega)] at hq
   exact ⟨hrow _ _ (h3 i b q hi hq).1, Nat.lt_of_lt_of_le (h3 i b q hi hq).2 hX⟩
  ·rw [List.getElem?_append_right hl] at hi
   rw [List.getElem?_append_right (by omega)] at hq
   have h0 : i - bs.length = 0 := by
    have := (List.getElem?_eq_some_iff.1 hi).1
    simp at this
    omega
   rw [h0] at hi
   rw [show i - nx.length = 0 by omega] at hq
   simp at hi hq
   subst hi hq
   exact ⟨hrow _ _ hR, hRX⟩
structure MtS (B0 Bk : Nat) (wr : World) (K X : Nat) (v8 v9 : Value) (M : List (Nat × Bool)) (nx : List (List Nat)) : Prop where
 known : wr.ownsMap Tryd.prog 9 (plainElem (H := Unit) Tryd.prog 3) Bk M.length (kD (M.map litS))
 keysy : Keysy (M.map litS)
 met : wr.ownsRow B0 122 8 v8 M.length (spFlat M)
 next : NxAt B0 wr K X v9 nx
theorem map_later {w w' : World} {P : Program} {k : TypeId} {R : Value → Option (DataW Unit × List MemPlace)} {b n : Nat} {D : DataW Unit} (h : w.ownsMap P k R b n D) (hb : Below w.heap.size w w') : w'.ownsMap P k R b n D := h.kept (row := none) (grown_none hb none) (by simp)
theorem MtS.later {B0 Bk : Nat} {w w' : World} {K X : Nat} {v8 v9 : Value} {M : List (Nat × Bool)} {nx : List (List Nat)} (h : MtS B0 Bk w K X v8 v9 M nx) (hb : Below w.heap.size w w') : MtS B0 Bk w' K X v8 v9 M nx :=
 ⟨map_later h.known hb, h.keysy, own_later5 h.met hb, h.next.later hb⟩
theorem MtS.own8 {B0 Bk : Nat} {w : World} {K X : Nat} {v8 v9 : Value} {M : List (Nat × Bool)} {nx : List (List Nat)} (h : MtS B0 Bk w K X v8 v9 M nx) {g : Nat} (hg : v8.ownBlock = some g) : ∃ cur, w.heap[g]? = some (.cells cur 122 (0, 0)) := (own_lt h.met hg).2.2
theorem MtS.own9 {B0 Bk : Nat} {w : World} {K X : Nat} {v8 v9 : Value} {M : List (Nat × Bool)} {nx : List (List Nat)} (h : MtS B0 Bk w K X v8 v9 M nx) {g : Nat} (hg : v9.ownBlock = some g) : ∃ cur, w.heap[g]? = some (.cells cur 26 (0, 0)) := by
 obtain ⟨bs, _, h2, _⟩ := h.next
 exact (own_lt h2 hg).2.2
theorem MtS.num {B0 Bk : Nat} {w w' : World} {K X : Nat} {v8 v9 : Value} {M M' : List (Nat × Bool)} {nx : List (List Nat)} (h : MtS B0 Bk w K X v8 v9 M nx) (hg : w.grownBy w' (some Bk)) : w'.ownsRow B0 122 8 v8 M.length (spFlat M) ∧ NxAt B0 w' K X v9 nx := by
 refine ⟨h.met.kept hg (.inr fun e => ?_), h.next.kept hg (fun e => ?_) (fun b r hb _ e => ?_)⟩
 ·obtain ⟨cur, hc⟩ := h.own8 e; exact ne_map h.known hc rfl
 ·obtain ⟨cur, hc⟩ := h.own9 e; exact ne_map h.known hc rfl
 ·exact ne_map h.known hb e
theorem MtS.row {B0 Bk : Nat} {w : World} {K R : Nat} {v8 v9 : Value} {M : List (Nat × Bool)} {nx : List (List Nat)} {r : List Nat} (h : MtS B0 Bk w K R v8 v9 M nx) (hR : IRow w R r) (i : Nat) (v : Value) : MtS B0 Bk (w.setCell ⟨R, i, none⟩ v) K R v8 v9 M nx := by
 have hg := grown_cell w R i v
 refine ⟨h.known.setCell (fun e => ne_map h.known hR e.symm) v, h.keysy, h.met.kept hg (.inr fun e => ?_), h.next.kept hg (fun e => ?_) (fun b q hb hlt e => by omega)⟩
 ·obtain ⟨cur, hc⟩ := h.own8 e; exact ne_ty hc hR (by decide) rfl
 ·obtain ⟨cur, hc⟩ := h.own9 e; exact ne_ty hc hR (by decide) rfl
theorem MtS.app {B0 Bk : Nat} {w w' : World} {K X : Nat} {v8 v8' v9 : Value} {M : List (Nat × Bool)} {nx : List (List Nat)} {y : Nat × Bool}
 (hk : w.ownsMap Tryd.prog 9 (plainElem (H := Unit) Tryd.prog 3) Bk (M ++ [y]).length (kD ((M ++ [y]).map litS))) (hks : Keysy ((M ++ [y]).map litS)) (hm : w.ownsRow B0 122 8 v8 M.length (spFlat M)) (hn : NxAt B0 w K X v9 nx)
 (hg : w.grownBy w' v8.ownBlock) (ho : w'.ownsRow B0 122 8 v8' (M.length + 1) (spFlat M ++ (spC y.1 y.2).toList)) : MtS B0 Bk w' K X v8' v9 (M ++ [y]) nx := by
 have hne : ∀ g, v8.ownBlock = some g → ∃ cur, w.heap[g]? = some (.cells cur 122 (0, 0)) := fun g e => (own_lt hm e).2.2
 refine ⟨hk.kept hg (fun e => ?_), hks, by rw [spFlat_snoc, List.length_append]; exact ho, ?_⟩
 ·obtain ⟨cur, hc⟩ := hne _ e.symm; exact ne_map hk hc rfl
 ·obtain ⟨bs, h1, h2, h3⟩ := hn
  refine ⟨bs, h1, h2.kept hg ?_, fun i b r hi hr => ⟨?_, (h3 i b r hi hr).2⟩⟩
  ·cases hx : v9.ownBlock with
   | none => exact .inl rfl
   | some g =>
     refine .inr fun e => ?_
     obtain ⟨cur, hc⟩ := hne g e.symm
     obtain ⟨_, _, c2, hc2⟩ := own_lt h2 hx
     exact ne_ty hc hc2 (by decide) rfl
  ·have hb := (h3 i b r hi hr).1
   refine (hg.block b hb.lt (fun e => ?_)).trans hb
   obtain ⟨cur, hc⟩ := hne b e.symm
   exact ne_ty hc hb (by decide) rfl
theorem MtS.put {B0 Bk : Nat} {w w' : World} {K X X' : Nat} {v8 v9 v' : Value} {M : List (Nat × Bool)} {nx : List (List Nat)} {R : Nat} {r : List Nat} {bs : List Nat} (h : MtS B0 Bk w K X v8 v9 M nx) (h1 : bs.length = nx.length) (h2 : w.ownsRow B0 26 1 v9 nx.length (bs.map (rowV K))) (h3 : ∀ (i b : Nat) (r : List Nat), bs[i]? = some b → nx[i]? = some r → IRow w b r ∧ b < X) (hX : X ≤ X') (hR : IRow w R r) (hRX : R < X') (hg : w.grownBy w' v9.ownBlock)
 (ho : w'.ownsRow B0 26 1 v' (nx.length + 1) (bs.map (rowV K) ++ [rowV K R])) : MtS B0 Bk w' K X' v8 v' M (nx ++ [r]) := by
 refine ⟨h.known.kept hg (fun e => ?_), h.keysy, h.met.kept hg ?_, nx_snoc h1 h2 h3 hX hR hRX hg ho⟩
 ·obtain ⟨cur, hc⟩ := h.own9 e.symm; exact ne_map h.known hc rfl
 ·cases hx : v8.ownBlock with
  | none => exact .inl rfl
  | some g =>
    refine .inr fun e => ?_
    obtain ⟨c1, hc1⟩ := h.own8 hx
    obtain ⟨c2, hc2⟩ := h.own9 e.symm
    exact ne_ty hc1 hc2 (by decide) rfl
end Go.Proofs.YtclogekfdmikpaaDoor

/- The walk of meet, of spots. -/
namespace Go.Proofs.YtclogekfdmikpaaDoor
open Go.RowKit Go.Shelf Go.Maps
set_option linter.unusedVariables false
set_option linter.unusedSimpArgs false

theorem info_spot : (Tryd.prog.info? 122).map (fun i => (i.zero, i.size, i.bytes)) = some (some (.agg #[.int .u64 0, .int .u64 0, .int .u64 0, .int .u64 0, .int .u64 0, .int .u64 0, .int .u64 0, .bool false]), 8, 64) := by kernel_rfl
theorem info_ints : (Tryd.prog.info? 26).map (fun i => (i.zero, i.size, i.bytes)) = some (some (.slice none 0 0), 1, 24) := by kernel_rfl
def MeetS (K : Nat) (step : Nat × Bool → Nat → Nat × Bool) (first : Nat × Bool) (w : World) (e : Ending) (w' : World) : Prop :=
 Below w.heap.size w w' ∧ ((∃ M nx v8 v9, e = .returned (.tuple #[v8, v9, .bool true]) ∧ MeetP K step first M nx ∧ nx.length = M.length ∧ M.length ≤ 2000 ∧ (∀ x, x ∈ M → Rch K step first x) ∧ w'.ownsRow w.heap.size 122 8 v8 M.length (spFlat M) ∧ NxAt w.heap.size w' K w'.heap.size v9 nx) ∨
  (e = .returned (.tuple #[.slice none 0 0, .slice none 0 0, .bool false]) ∧ TooMany K step first))
set_option maxRecDepth 100000 in
set_option maxHeartbeats 8000000 in
theorem meetS_any (w : World) (bp : Nat) (s : Sp) (wh : Bool) (l : Pl) (K : Nat) (hK1 : 1 ≤ K) (hK : K ≤ 24) (hT : TabD w) (hp : PlanR w bp s wh l) (hbd : ∀ x, Rch K (fun x c => stepS wh s l x (Int.ofNat c)) (begS s) x → BdS x) :
 Calls Tryd.prog 63 #[.int .i64 (K : Int), spV (begS s), .func (.func 65) #[] #[], .func (.func 66) #[.pointer (some ⟨bp, 0, none⟩)] #[]] w (MeetS K (fun x c => stepS wh s l x (Int.ofNat c)) (begS s) w) := by
 obtain ⟨st, hst⟩ : ∃ st : Nat × Bool → Nat → Nat × Bool, st = fun x c => stepS wh s l x (Int.ofNat c) := ⟨_, rfl⟩
 obtain ⟨F0, hF0⟩ : ∃ F0, F0 = begS s := ⟨_, rfl⟩
 rw [← hst, ← hF0] at hbd ⊢
 obtain ⟨fs, fb⟩ := F0
 have HBD : Hid (∀ x, Rch K st (fs, fb) x → BdS x) := hbd
 have HST : Hid (∀ (W : World) (x : Nat × Bool) (c : Nat), c < K → Below w.heap.size w W → Calls Tryd.prog 66 #[.pointer (some ⟨bp, 0, none⟩), .agg #[.int .u64 (nw x.1 0 : Int), .int .u64 (nw x.1 1 : Int), .int .u64 (nw x.1 2 : Int), .int .u64 (nw x.1 3 : Int), .int .u64 (nw x.1 4 : Int), .int .u64 (nw x.1 5 : Int), .int .u64 (nw x.1 6 : Int), .bool x.2], .int .i64 (c : Int)] W fun e w' => e = .returned (.agg #[.int .u64 (nw (st x c).1 0 : Int), .int .u64 (nw (st x c).1 1 : Int), .int .u64 (nw (st x c).1 2 : Int), .int .u64 (nw (st x c).1 3 : Int), .int .u64 (nw (st x c).1 4 : Int), .int .u64 (nw (st x c).1 5 : Int), .int .u64 (nw (st x c).1 6 : Int), .bool (st x c).2]) ∧ Below W.heap.size W w') := fun W x c hc hW => by
  rw [hst]
  exact step_sp W bp s wh l x c (by omega) (hT.later hW) (hp.later hW)
 have HTX : Hid (∀ (W : World) (x : Nat × Bool), Calls Tryd.prog 65 #[.agg #[.int .u64 (nw x.1 0 : Int), .int .u64 (nw x.1 1 : Int), .int .u64 (nw x.1 2 : Int), .int .u64 (nw x.1 3 : Int), .int .u64 (nw x.1 4 : Int), .int .u64 (nw x.1 5 : Int), .int .u64 (nw x.1 6 : Int), .bool x.2]] W fun e w' => e = .returned (.string (tS (sx x.2 (wds7 x.1)))) ∧ Below W.heap.size W w') := fun W x => text_any x.1 x.2 W
 have hKi : (K : Int) ≤ 24 := by omega
 have hmm := @run_makeMap Tryd.prog
 obtain ⟨wA, hwA⟩ : ∃ wA, wA = (w.alloc (.cells #[.int .u64 (nw fs 0 : Int), .int .u64 (nw fs 1 : Int), .int .u64 (nw fs 2 : Int), .int .u64 (nw fs 3 : Int), .int .u64 (nw fs 4 : Int), .int .u64 (nw fs 5 : Int), .int .u64 (nw fs 6 : Int), .bool fb] 122)).alloc (.map #[] 0) := ⟨_, rfl⟩
 obtain ⟨H, hH⟩ : ∃ H, H = w.heap.size := ⟨_, rfl⟩
 have HBA : Hid (Below w.heap.size w wA) := by rw [hwA]; exact ((Below.refl _ w).alloc (Nat.le_refl _) _).alloc (by simp) _
 have HA0 : Hid (wA.heap[H]? = some (.cells #[.int .u64 (nw fs 0 : Int), .int .u64 (nw fs 1 : Int), .int .u64 (nw fs 2 : Int), .int .u64 (nw fs 3 : Int), .int .u64 (nw fs 4 : Int), .int .u64 (nw fs 5 : Int), .int .u64 (nw fs 6 : Int), .bool fb] 122)) := by
  show _ = _
  rw [hwA, hH]
  exact (((Below.refl _ (w.alloc _)).alloc (Nat.le_refl _) _).block w.heap.size (by simp)).trans (heap_alloc_new w _)
 have HMA : Hid (wA.ownsMap Tryd.prog 9 (plainElem (H := Unit) Tryd.prog 3) (H + 1) 0 (.map [])) := by
  rw [hwA, hH]
  have := World.ownsMap_made (w.alloc (.cells #[.int .u64 (nw fs 0 : Int), .int .u64 (nw fs 1 : Int), .int .u64 (nw fs 2 : Int), .int .u64 (nw fs 3 : Int), .int .u64 (nw fs 4 : Int), .int .u64 (nw fs 5 : Int), .int .u64 (nw fs 6 : Int), .bool fb] 122)) Tryd.prog 9 (plainElem (H := Unit) Tryd.prog 3)
  rwa [show (w.alloc (.cells #[.int .u64 (nw fs 0 : Int), .int .u64 (nw fs 1 : Int), .int .u64 (nw fs 2 : Int), .int .u64 (nw fs 3 : Int), .int .u64 (nw fs 4 : Int), .int .u64 (nw fs 5 : Int), .int .u64 (nw fs 6 : Int), .bool fb] 122)).heap.size = w.heap.size + 1 by simp] at this
 have HH : Hid (H = w.heap.size) := hH
 have law : Go.Maps.Keyed Tryd.prog 9 := string_keyed Tryd.underlying9
 have HLAW : Hid (Go.Maps.Keyed Tryd.prog 9) := law
 have a0 : wA.cell? ⟨H, 0, none⟩ = some (.int .u64 (nw fs 0 : Int)) := cell_of_row wA H 0 _ _ _ HA0.out
 have a1 : wA.cell? ⟨H, 1, none⟩ = some (.int .u64 (nw fs 1 : Int)) := cell_of_row wA H 1 _ _ _ HA0.out
 have a2 : wA.cell? ⟨H, 2, none⟩ = some (.int .u64 (nw fs 2 : Int)) := cell_of_row wA H 2 _ _ _ HA0.out
 have a3 : wA.cell? ⟨H, 3, none⟩ = some (.int .u64 (nw fs 3 : Int)) := cell_of_row wA H 3 _ _ _ HA0.out
 have a4 : wA.cell? ⟨H, 4, none⟩ = some (.int .u64 (nw fs 4 : Int)) := cell_of_row wA H 4 _ _ _ HA0.out
 have a5 : wA.cell? ⟨H, 5, none⟩ = some (.int .u64 (nw fs 5 : Int)) := cell_of_row wA H 5 _ _ _ HA0.out
 have a6 : wA.cell? ⟨H, 6, none⟩ = some (.int .u64 (nw fs 6 : Int)) := cell_of_row wA H 6 _ _ _ HA0.out
 have a7 : wA.cell? ⟨H, 7, none⟩ = some (.bool fb) := cell_of_row wA H 7 _ _ _ HA0.out
 clear hst hF0 hbd hT hp law
 unfold spV nwV
 go_enter Tryd.func63, Tryd.ntmps63
 go_wp2_with fail
 rw [← hH, ← hwA]
 clear hH hwA hmm
 refine (HTX.out wA (fs, fb)).mono ?_
 rintro e w1 ⟨rfl, hb1⟩
 have HB1 : Hid (Below w.heap.size w w1) := HBA.out.trans (hb1.mono HBA.out.size)
 have hm1 := map_later HMA.out hb1
 have hkey : keyOf Tryd.prog 9 (.string (tS (sx fb (wds7 fs)))) = some (litS (fs, fb)) := WideMaps.keyOf_string_mk Tryd.underlying9 (by rw [tS_size]; have := sx_len fb (wds7 fs); simp [wds7] at this ⊢; unfold maxLen; omega)
 obtain ⟨w2, hrun, hown2, hg2⟩ := hm1.update HLAW.out Tryd.underlying144 (by unfold maxLen; omega) hkey (plainElem_int Tryd.underlying3 (WalkArith.wf_i64 (n := 0) (by omega)))
 obtain ⟨TT, hTT⟩ : ∃ TT, TT = tS (sx fb (wds7 fs)) := ⟨_, rfl⟩
 rw [← hTT] at hrun ⊢
 have hA1 := (hb1.block H (Array.getElem?_eq_some_iff.1 HA0.out).1).trans HA0.out
 have hA2 := (hg2.block H (Array.getElem?_eq_some_iff.1 hA1).1 (fun e => ne_map hm1 hA1 (Option.some.inj e))).trans hA1
 have HB2 : Hid (Below w.heap.size w w2) := HB1.out.grown hg2 HB1.out.size (fun k e => by cases e; rw [HH.out]; exact Nat.le_succ _)
 have HK2 : Hid (w2.ownsMap Tryd.prog 9 (plainElem (H := Unit) Tryd.prog 3) (H + 1) 1 (kD [litS (fs, fb)])) := hown2
 have d0 : w2.cell? ⟨H, 0, none⟩ = some (.int .u64 (nw fs 0 : Int)) := cell_of_row w2 H 0 _ _ _ hA2
 have d1 : w2.cell? ⟨H, 1, none⟩ = some (.int .u64 (nw fs 1 : Int)) := cell_of_row w2 H 1 _ _ _ hA2
 have d2 : w2.cell? ⟨H, 2, none⟩ = some (.int .u64 (nw fs 2 : Int)) := cell_of_row w2 H 2 _ _ _ hA2
 have d3 : w2.cell? ⟨H, 3, none⟩ = some (.int .u64 (nw fs 3 : Int)) := cell_of_row w2 H 3 _ _ _ hA2
 have d4 : w2.cell? ⟨H, 4, none⟩ = some (.int .u64 (nw fs 4 : Int)) := cell_of_row w2 H 4 _ _ _ hA2
 have d5 : w2.cell? ⟨H, 5, none⟩ = some (.int .u64 (nw fs 5 : Int)) := cell_of_row w2 H 5 _ _ _ hA2
 have d6 : w2.cell? ⟨H, 6, none⟩ = some (.int .u64 (nw fs 6 : Int)) := cell_of_row w2 H 6 _ _ _ hA2
 have d7 : w2.cell? ⟨H, 7, none⟩ = some (.bool fb) := cell_of_row w2 H 7 _ _ _ hA2
 obtain ⟨w3, hw3⟩ : ∃ w3, w3 = w2.alloc (.cells #[.int .u64 (nw fs 0 : Int), .int .u64 (nw fs 1 : Int), .int .u64 (nw fs 2 : Int), .int .u64 (nw fs 3 : Int), .int .u64 (nw fs 4 : Int), .int .u64 (nw fs 5 : Int), .int .u64 (nw fs 6 : Int), .bool fb] 122) := ⟨_, rfl⟩
 obtain ⟨G, hG⟩ : ∃ G, G = w2.heap.size := ⟨_, rfl⟩
 have HS3 : Hid (MtS w.heap.size (H + 1) w3 K w3.heap.size (.slice (some ⟨G, 0, none⟩) 1 1) (.slice none 0 0) [(fs, fb)] []) := by
  have hb3 : Below w2.heap.size w2 w3 := by rw [hw3]; exact (Below.refl _ w2).alloc (Nat.le_refl _) _
  refine ⟨map_later HK2.out hb3, ⟨by simp, fun k hk => by simp at hk; subst hk; simp [litS, WideAt.IsKeyLit]⟩, ⟨rfl, .inr ⟨G, 1, #[.int .u64 (nw fs 0 : Int), .int .u64 (nw fs 1 : Int), .int .u64 (nw fs 2 : Int), .int .u64 (nw fs 3 : Int), .int .u64 (nw fs 4 : Int), .int .u64 (nw fs 5 : Int), .int .u64 (nw fs 6 : Int), .bool fb], rfl, by rw [hG]; exact HB2.out.size, by rw [hw3, hG]; exact heap_alloc_new w2 _, Nat.le_refl _, by unfold maxLen; omega, rfl, rfl⟩⟩, NxAt.nil _ _ _ _⟩
 have HB3 : Hid (Below w.heap.size w w3) := by rw [hw3]; exact HB2.out.alloc HB2.out.size _
 clear hb1 hm1 hkey hown2 hg2 hTT hA1 hA2 a0 a1 a2 a3 a4 a5 a6 a7
 go_wp2
 rw [← hG, ← hw3]
 clear hG hw3 hrun d0 d1 d2 d3 d4 d5 d6 d7
 go_loopw [8, 9, 12] (fun x8 x9 x12 wr => ∃ (M : List (Nat × Bool)) (nx : List (List Nat)) (m n g cap : Nat) (a9 : Option Addr) (c9 : Nat), m = M.length ∧ n = nx.length ∧ x8 = .slice (some ⟨g, 0, none⟩) m cap ∧ x9 = .slice a9 n c9 ∧ x12 = .int .i64 (n : Int) ∧ MtS w.heap.size (H + 1) wr K wr.heap.size (.slice (some ⟨g, 0, none⟩) m cap) (.slice a9 n c9) M nx ∧ MeetP K st (fs, fb) M nx ∧ (∀ x, x ∈ M → Rch K st (fs, fb) x) ∧ m ≤ 2000 ∧ n ≤ m ∧ Below w.heap.size w wr) (fun _ _ x12 _ => 2000 - (intOf x12).toNat)
 case atStart => exact ⟨[(fs, fb)], [], 1, 0, G, 1, none, 0, rfl, rfl, rfl, rfl, rfl, HS3.out, meet_begin K st (fs, fb), fun x hx => by rw [List.mem_singleton.1 hx]; exact Rch.one _ _ _, by omega, by omega, HB3.out⟩
 case round =>
  obtain ⟨M, nx, m, n, g, cap, a9, c9, hm, hn, hx8, hx9, hx12, hmt, hmp, hrch, hm2, hnm, hbw⟩ := hrel
  subst hx8 hx9 hx12
  have HM : Hid (m = M.length ∧ n = nx.length) := ⟨hm, hn⟩
  have HMT : Hid (MtS w.heap.size (H + 1) wr K wr.heap.size (.slice (some ⟨g, 0, none⟩) m cap) (.slice a9 n c9) M nx) := hmt
  have HMP : Hid (MeetP K st (fs, fb) M nx) := hmp
  have HRC : Hid (∀ x, x ∈ M → Rch K st (fs, fb) x) := hrch
  have HBW : Hid (Below w.heap.size w wr) := hbw
  clear hm hn hmt hmp hrch hbw
  by_cases hlt : n < m
  ·have hni : (n : Int) < (m : Int) := by omega
   obtain ⟨x, hx⟩ : ∃ x, M[n]? = some x := ⟨_, List.getElem?_eq_getElem (by rw [← HM.out.1]; exact hlt)⟩
   have HX : Hid (M[n]? = some x) := hx
   have hmk := make_i K (by omega)
   obtain ⟨R, hR⟩ : ∃ R, R = wr.heap.size := ⟨_, rfl⟩
   obtain ⟨wR, hwR⟩ : ∃ wR, wR = wr.alloc (.cells (iv (List.replicate K 0)).toArray 3) := ⟨_, rfl⟩
   have hbR : Below wr.heap.size wr wR := by rw [hwR]; exact (Below.refl _ wr).alloc (Nat.le_refl _) _
   have HMR : Hid (MtS w.heap.size (H + 1) wR K R (.slice (some ⟨g, 0, none⟩) m cap) (.slice a9 n c9) M nx) := by rw [hR]; exact HMT.out.later hbR
   have HIR : Hid (IRow wR R (List.replicate K 0)) := by show IRow _ _ _; rw [hwR, hR]; exact heap_alloc_new wr _
   have HBR : Hid (Below w.heap.size w wR) := HBW.out.trans (hbR.mono HBW.out.size)
   have HRW : Hid (w.heap.size ≤ R) := by rw [hR]; exact HBW.out.size
   clear hx hbR
   go_upto_region 7 with fail
   rw [← hR, ← hwR]
   clear hR hwR hmk
   go_wp2
   go_loopw [8, 9, 33] (fun x8 x9 x33 wz => ∃ (c m' g' cap' : Nat) (M' : List (Nat × Bool)) (r : List Nat), c ≤ K ∧ x9 = .slice a9 n c9 ∧ x33 = .int .i64 (c : Int) ∧ m' = M'.length ∧ x8 = .slice (some ⟨g', 0, none⟩) m' cap' ∧ MtS w.heap.size (H + 1) wz K R (.slice (some ⟨g', 0, none⟩) m' cap') (.slice a9 n c9) M' nx ∧ IRow wz R (r ++ List.replicate (K - c) 0) ∧ r.length = c ∧ MidP st x M M' r ∧ (∀ y, y ∈ M' → Rch K st (fs, fb) y) ∧ m' ≤ 2000 ∧ Below w.heap.size w wz) (fun _ _ x33 _ => K - (intOf x33).toNat)
   case atStart => exact ⟨0, m, g, cap, M, [], by omega, rfl, rfl, HM.out.1, rfl, HMR.out, by simpa using HIR.out, rfl, mid_begin HMP.out.nodup, HRC.out, hm2, HBR.out⟩
   case round =>
    obtain ⟨c, m', g', cap', M', r, hc, hx9, hx33, hm', hx8, hmt, hir, hrl, hmid, hrch, hm2', hbz⟩ := hrel
    subst hx9 hx33 hx8
    have HM' : Hid (m' = M'.length ∧ r.length = c) := ⟨hm', hrl⟩
    have HMZ : Hid (MtS w.heap.size (H + 1) wr K R (.slice (some ⟨g', 0, none⟩) m' cap') (.slice a9 n c9) M' nx) := hmt
    have HIZ : Hid (IRow wr R (r ++ List.replicate (K - c) 0)) := hir
    have HMD : Hid (MidP st x M M' r) := hmid
    have HRZ : Hid (∀ y, y ∈ M' → Rch K st (fs, fb) y) := hrch
    have HBZ : Hid (Below w.heap.size w wr) := hbz
    have hlm : m ≤ m' := by rw [HM.out.1, hm']; exact hmid.pre.length_le
    clear hm' hrl hmt hir hmid hrch hbz
    by_cases hlc : c < K
    ·have hci : (c : Int) < (K : Int) := by omega
     have hnm' : (n : Int) < (m' : Int) := by omega
     have hxM' : M'[n]? = some x := pre_get HMD.out.pre HX.out
     obtain ⟨S, b⟩ := x
     have hmet := HMZ.out.met
     obtain ⟨y, hy⟩ : ∃ y, y = st (S, b) c := ⟨_, rfl⟩
     have HCS : Hid (Calls Tryd.prog 66 #[.pointer (some ⟨bp, 0, none⟩), .agg #[.int .u64 (nw S 0 : Int), .int .u64 (nw S 1 : Int), .int .u64 (nw S 2 : Int), .int .u64 (nw S 3 : Int), .int .u64 (nw S 4 : Int), .int .u64 (nw S 5 : Int), .int .u64 (nw S 6 : Int), .bool b], .int .i64 (c : Int)] wr fun e w' => e = .returned (.agg #[.int .u64 (nw y.1 0 : Int), .int .u64 (nw y.1 1 : Int), .int .u64 (nw y.1 2 : Int), .int .u64 (nw y.1 3 : Int), .int .u64 (nw y.1 4 : Int), .int .u64 (nw y.1 5 : Int), .int .u64 (nw y.1 6 : Int), .bool y.2]) ∧ Below wr.heap.size wr w') := by rw [hy]; exact HST.out wr (S, b) c hlc HBZ.out
     have HY : Hid (y = st (S, b) r.length) := by show y = _; rw [HM'.out.2]; exact hy
     have HYR : Hid (Rch K st (fs, fb) y) := by rw [hy]; exact (HRZ.out _ (List.mem_of_getElem? hxM')).next hlc
     have hat : ∀ j v, (spC S b)[j]? = some v → j < 8 → wr.cell? ⟨g', n * 8 + j, none⟩ = some v := fun j v hv hj => by
      rcases hmet.2 with ⟨h1, _⟩ | ⟨gg, cc, cur, h1, _, h3, _, _, _, h7⟩
      ·cases h1
      ·cases h1
       have h8 := spFlat_get M' n j (S, b) hxM' hj
       rw [← h7, List.getElem?_take, if_pos (by rw [← HM'.out.1]; omega), Array.getElem?_toList] at h8
       exact (cell_of_row wr g' (n * 8 + j) _ _ _ h3).trans (h8.trans hv)
     have a0 : wr.cell? ⟨g', n * 8, none⟩ = some (.int .u64 (nw S 0 : Int)) := hat 0 _ rfl (by omega)
     have a1 : wr.cell? ⟨g', n * 8 + 1, none⟩ = some (.int .u64 (nw S 1 : Int)) := hat 1 _ rfl (by omega)
     have a2 : wr.cell? ⟨g', n * 8 + 2, none⟩ = some (.int .u64 (nw S 2 : Int)) := hat 2 _ rfl (by omega)
     have a3 : wr.cell? ⟨g', n * 8 + 3, none⟩ = some (.int .u64 (nw S 3 : Int)) := hat 3 _ rfl (by omega)
     have a4 : wr.cell? ⟨g', n * 8 + 4, none⟩ = some (.int .u64 (nw S 4 : Int)) := hat 4 _ rfl (by omega)
     have a5 : wr.cell? ⟨g', n * 8 + 5, none⟩ = some (.int .u64 (nw S 5 : Int)) := hat 5 _ rfl (by omega)
     have a6 : wr.cell? ⟨g', n * 8 + 6, none⟩ = some (.int .u64 (nw S 6 : Int)) := hat 6 _ rfl (by omega)
     have a7 : wr.cell? ⟨g', n * 8 + 7, none⟩ = some (.bool b) := hat 7 _ rfl (by omega)
     clear hmet hat hy hxM'
     go_wp2_with fail
     refine HCS.out.mono ?_
     rintro e w1 ⟨rfl, hb1⟩
     obtain ⟨w2, hw2⟩ : ∃ w2, w2 = w1.alloc (.cells #[.int .u64 (nw y.1 0 : Int), .int .u64 (nw y.1 1 : Int), .int .u64 (nw y.1 2 : Int), .int .u64 (nw y.1 3 : Int), .int .u64 (nw y.1 4 : Int), .int .u64 (nw y.1 5 : Int), .int .u64 (nw y.1 6 : Int), .bool y.2] 122) := ⟨_, rfl⟩
     obtain ⟨P, hP⟩ : ∃ P, P = w1.heap.size := ⟨_, rfl⟩
     have HB2 : Hid (Below wr.heap.size wr w2) := by rw [hw2]; exact hb1.trans (((Below.refl _ w1).alloc (Nat.le_refl _) _).mono hb1.size)
     have HP2 : Hid (w2.heap[P]? = some (.cells (spC y.1 y.2) 122) ∧ wr.heap.size ≤ P) := ⟨by rw [hw2, hP]; exact heap_alloc_new w1 _, by rw [hP]; exact hb1.size⟩
     have d0 : w2.cell? ⟨P, 0, none⟩ = some (.int .u64 (nw y.1 0 : Int)) := cell_of_row w2 P 0 _ _ _ HP2.out.1
     have d1 : w2.cell? ⟨P, 1, none⟩ = some (.int .u64 (nw y.1 1 : Int)) := cell_of_row w2 P 1 _ _ _ HP2.out.1
     have d2 : w2.cell? ⟨P, 2, none⟩ = some (.int .u64 (nw y.1 2 : Int)) := cell_of_row w2 P 2 _ _ _ HP2.out.1
     have d3 : w2.cell? ⟨P, 3, none⟩ = some (.int .u64 (nw y.1 3 : Int)) := cell_of_row w2 P 3 _ _ _ HP2.out.1
     have d4 : w2.cell? ⟨P, 4, none⟩ = some (.int .u64 (nw y.1 4 : Int)) := cell_of_row w2 P 4 _ _ _ HP2.out.1
     have d5 : w2.cell? ⟨P, 5, none⟩ = some (.int .u64 (nw y.1 5 : Int)) := cell_of_row w2 P 5 _ _ _ HP2.out.1
     have d6 : w2.cell? ⟨P, 6, none⟩ = some (.int .u64 (nw y.1 6 : Int)) := cell_of_row w2 P 6 _ _ _ HP2.out.1
     have d7 : w2.cell? ⟨P, 7, none⟩ = some (.bool y.2) := cell_of_row w2 P 7 _ _ _ HP2.out.1
     clear hb1 HCS
     go_upto_region 11 with fail
     rw [← hP, ← hw2]
     clear hP hw2 a0 a1 a2 a3 a4 a5 a6 a7
     go_wp2_with fail
     refine (HTX.out w2 y).mono ?_
     rintro e w3 ⟨rfl, hb3⟩
     have HB3 : Hid (Below wr.heap.size wr w3) := HB2.out.trans (hb3.mono HB2.out.size)
     have HP3 : Hid (w3.heap[P]? = some (.cells (spC y.1 y.2) 122)) := (hb3.block P (Array.getElem?_eq_some_iff.1 HP2.out.1).1).trans HP2.out.1
     have HM3 : Hid (MtS w.heap.size (H + 1) w3 K R (.slice (some ⟨g', 0, none⟩) m' cap') (.slice a9 n c9) M' nx) := HMZ.out.later HB3.out
     have HI3 : Hid (IRow w3 R (r ++ List.replicate (K - c) 0)) := HIZ.out.later HB3.out
     have HW3 : Hid (Below w.heap.size w w3) := HBZ.out.trans (HB3.out.mono HBZ.out.size)
     have HNM : Hid (Calls Tryd.prog 78 #[.map (some (H + 1)), .string (tS (sx y.2 (wds7 y.1)))] w3 (NumP 9 (H + 1) (M'.map litS) (litS y) w3)) := num_str (H + 1) (M'.map litS) (tS (sx y.2 (wds7 y.1))) w3 (by rw [List.length_map]; exact HM3.out.known) HM3.out.keysy (by rw [List.length_map, ← HM'.out.1]; omega) (by rw [tS_size]; have := sx_len y.2 (wds7 y.1); simp [wds7] at this ⊢; unfold maxLen; omega)
     obtain ⟨TT, hTT⟩ : ∃ TT, TT = tS (sx y.2 (wds7 y.1)) := ⟨_, rfl⟩
     rw [← hTT] at HNM ⊢
     clear hb3 hTT d0 d1 d2 d3 d4 d5 d6 d7
     go_wp2_with fail
     refine HNM.out.mono ?_
     intro e w4 hnp
     obtain ⟨i, rfl, hg4, hor⟩ := num_met (fun z hz hl => litS_inj (HBD.out z (HRZ.out z hz)) (HBD.out y HYR.out) hl) hnp
     have hI4 : IRow w4 R (r ++ List.replicate (K - c) 0) := HI3.out.grown hg4 (ne_map HM3.out.known HI3.out)
     have HI4 : Hid (IRow w4 R (r ++ List.replicate (K - c) 0)) := hI4
     obtain ⟨hmt4, hnx4⟩ := HM3.out.num (M' := M') hg4
     have HP4 : Hid (w4.heap[P]? = some (.cells (spC y.1 y.2) 122)) := (hg4.block P (Array.getElem?_eq_some_iff.1 HP3.out).1 (fun e => ne_map HM3.out.known HP3.out (Option.some.inj e))).trans HP3.out
     have HW4 : Hid (Below w.heap.size w w4) := HW3.out.grown hg4 HW3.out.size (fun k e => by cases e; rw [HH.out]; exact Nat.le_succ _)
     have hlw : c < (r ++ List.replicate (K - c) 0).length := by simp only [List.length_append, List.length_replicate, List.length_cons, List.length_nil, HM'.out.2]; omega
     have c1 := hI4.cell hlw
     obtain ⟨x0, hx0⟩ : ∃ x0, x0 = (r ++ List.replicate (K - c) 0)[c] := ⟨_, rfl⟩
     rw [← hx0] at c1
     have f1 := hI4.frozen c
     obtain ⟨w5, hw5⟩ : ∃ w5, w5 = w4.setCell ⟨R, c, none⟩ (.int .i64 (i : Int)) := ⟨_, rfl⟩
     have hI5 : IRow w5 R ((r ++ [i]) ++ List.replicate (K - (c + 1)) 0) := by
      rw [hw5]
      have h1 := hI4.set c i
      have h2 : (r ++ List.replicate (K - c) 0).set c i = (r ++ [i]) ++ List.replicate (K - (c + 1)) 0 := by
       rw [List.set_append_right _ _ (by rw [HM'.out.2]; exact Nat.le_refl _), HM'.out.2, Nat.sub_self, show K - c = (K - (c + 1)) + 1 by omega, List.replicate_succ, List.set_cons_zero, List.append_assoc]
       rfl
      rw [h2] at h1
      exact h1
     have HI5 : Hid (IRow w5 R ((r ++ [i]) ++ List.replicate (K - (c + 1)) 0)) := hI5
     have hlw5 : c < ((r ++ [i]) ++ List.replicate (K - (c + 1)) 0).length := by simp only [List.length_append, List.length_replicate, List.length_cons, List.length_nil, HM'.out.2]; omega
     have c5 : w5.cell? ⟨R, c, none⟩ = some (.int .i64 (i : Int)) := by
      rw [hI5.cell hlw5]
      simp [List.getElem_append, HM'.out.2]
     have HW5 : Hid (Below w.heap.size w w5) := by rw [hw5]; exact HW4.out.setCell (p := ⟨R, c, none⟩) HRW.out _
     have HP5 : Hid (w5.heap[P]? = some (.cells (spC y.1 y.2) 122)) := by
      show _ = _
      rw [hw5]
      exact ((grown_cell w4 R c (.int .i64 (i : Int))).block P (Array.getElem?_eq_some_iff.1 HP4.out).1 (fun e => ne_ty HP4.out hI4 (by decide) (Option.some.inj e))).trans HP4.out
     have HG5 : Hid (w4.grownBy w5 (some R)) := by rw [hw5]; exact grown_cell w4 R c _
     clear hnp hlw hlw5 hx0 hI4 hI5 HNM
     rcases hor with ⟨hiy, hilt, hown4, hks4⟩ | ⟨hnew, hieq, hown4, hks4⟩
     ·have hilt' : i < m' := by rw [HM'.out.1]; exact hilt
      have HF : Hid (MtS w.heap.size (H + 1) w5 K R (.slice (some ⟨g', 0, none⟩) m' cap') (.slice a9 n c9) M' nx ∧ IRow w5 R ((r ++ [i]) ++ List.replicate (K - (c + 1)) 0) ∧ (r ++ [i]).length = c + 1 ∧ MidP st (S, b) M M' (r ++ [i]) ∧ (∀ y, y ∈ M' → Rch K st (fs, fb) y) ∧ m' ≤ 2000 ∧ Below w.heap.size w w5) := by
       refine ⟨?_, HI5.out, by simp [HM'.out.2], mid_old HMD.out (by rw [← HY.out]; exact hiy), HRZ.out, hm2', HW5.out⟩
       rw [hw5]
       exact MtS.row ⟨hown4, hks4, hmt4, hnx4⟩ HI4.out c _
      have h2000 : ¬ (i : Int) = 2000 := by omega
      have h2000b : ((i : Int) == 2000) = false := by rw [beq_eq_false_iff_ne]; exact h2000
      have hme : ¬ (i : Int) = (m' : Int) := by omega
      have hmeb : ((i : Int) == (m' : Int)) = false := by rw [beq_eq_false_iff_ne]; exact hme
      clear hiy hilt hown4 hks4 hmt4 hnx4 hg4
      go_upto_region 12 with fail
      rw [← hw5]
      clear hw5 c1 f1
      go_wp2
      go_roundw
      case rel => exact ⟨c + 1, m', g', cap', M', r ++ [i], by omega, rfl, by go_num, HM'.out.1, rfl, HF.out⟩
      case measure => simp [intOf]; omega
     ·obtain rfl : i = m' := by rw [HM'.out.1]; exact hieq
      by_cases hlim : i = 2000
      ·have HTM : Hid (TooMany K st (fs, fb)) := by
        refine ⟨M' ++ [y], ?_, by simp [← HM'.out.1, hlim], fun z hz => ?_⟩
        ·rw [List.nodup_append]
         exact ⟨HMD.out.nodup, by simp, fun a ha d hd => by rw [List.mem_singleton.1 hd]; rintro rfl; exact hnew ha⟩
        ·rcases List.mem_append.1 hz with hz | hz
         ·exact HRZ.out z hz
         ·rw [List.mem_singleton.1 hz]; exact HYR.out
       have HLIM : Hid (i = 2000) := hlim
       clear hown4 hks4 hmt4 hnx4 hg4 hnew hieq hlim
       go_upto_region 12 with fail
       rw [← hw5]
       clear hw5 c1 f1
       have h2000 : (i : Int) = 2000 := by have := HLIM.out; omega
       rw [h2000] at c5
       go_wp2
       go_ret3
       exact ⟨HW5.out, .inr ⟨rfl, HTM.out⟩⟩
      ·have h2000 : ¬ (i : Int) = 2000 := by omega
       have h2000b : ((i : Int) == 2000) = false := by rw [beq_eq_false_iff_ne]; exact h2000
       have hme : ((i : Int) == (i : Int)) = true := by simp
       have HK5 : Hid (w5.ownsMap Tryd.prog 9 (plainElem (H := Unit) Tryd.prog 3) (H + 1) (M' ++ [y]).length (kD ((M' ++ [y]).map litS)) ∧ Keysy ((M' ++ [y]).map litS)) := ⟨by rw [hw5]; exact hown4.setCell (fun e => ne_map hown4 HI4.out e.symm) _, hks4⟩
       have HM5 : Hid (w5.ownsRow w.heap.size 122 8 (.slice (some ⟨g', 0, none⟩) i cap') i (spFlat M')) := by
        have h1 : w5.ownsRow w.heap.size 122 8 (.slice (some ⟨g', 0, none⟩) i cap') M'.length (spFlat M') := by
         refine hmt4.kept HG5.out (.inr fun e => ?_)
         obtain ⟨_, _, cur, hc⟩ := own_lt hmt4 e
         exact ne_ty hc HI4.out (by decide) rfl
        rw [← HM'.out.1] at h1
        exact h1
       have HN5 : Hid (NxAt w.heap.size w5 K R (.slice a9 n c9) nx) := by
        refine hnx4.kept HG5.out (fun e => ?_) (fun b q hb hlt => by omega)
        obtain ⟨bs, _, h2, _⟩ := hnx4
        obtain ⟨_, _, cur, hc⟩ := own_lt h2 e
        exact ne_ty hc HI4.out (by decide) rfl
       have HNEW : Hid (st (S, b) r.length ∉ M') := by rw [← HY.out]; exact hnew
       obtain ⟨j0, ji, jz0, jz1, jz2⟩ := info_parts info_spot
       have HJ : Hid (Tryd.prog.info? 122 = some j0 ∧ j0.zero = some (.agg #[.int .u64 0, .int .u64 0, .int .u64 0, .int .u64 0, .int .u64 0, .int .u64 0, .int .u64 0, .bool false]) ∧ j0.size = 8 ∧ j0.bytes = 64) := ⟨ji, jz0, jz1, jz2⟩
       have d0 : w5.cell? ⟨P, 0, none⟩ = some (.int .u64 (nw y.1 0 : Int)) := cell_of_row w5 P 0 _ _ _ HP5.out
       have d1 : w5.cell? ⟨P, 1, none⟩ = some (.int .u64 (nw y.1 1 : Int)) := cell_of_row w5 P 1 _ _ _ HP5.out
       have d2 : w5.cell? ⟨P, 2, none⟩ = some (.int .u64 (nw y.1 2 : Int)) := cell_of_row w5 P 2 _ _ _ HP5.out
       have d3 : w5.cell? ⟨P, 3, none⟩ = some (.int .u64 (nw y.1 3 : Int)) := cell_of_row w5 P 3 _ _ _ HP5.out
       have d4 : w5.cell? ⟨P, 4, none⟩ = some (.int .u64 (nw y.1 4 : Int)) := cell_of_row w5 P 4 _ _ _ HP5.out
       have d5 : w5.cell? ⟨P, 5, none⟩ = some (.int .u64 (nw y.1 5 : Int)) := cell_of_row w5 P 5 _ _ _ HP5.out
       have d6 : w5.cell? ⟨P, 6, none⟩ = some (.int .u64 (nw y.1 6 : Int)) := cell_of_row w5 P 6 _ _ _ HP5.out
       have d7 : w5.cell? ⟨P, 7, none⟩ = some (.bool y.2) := cell_of_row w5 P 7 _ _ _ HP5.out
       have HFIN : Hid (∀ (g6 cap6 : Nat) (w6 : World), w6.ownsRow w.heap.size 122 8 (.slice (some ⟨g6, 0, none⟩) (i + 1) cap6) (i + 1) (spFlat M' ++ (spC y.1 y.2).toList) → (w5.alloc (.cells #[.int .u64 (nw y.1 0 : Int), .int .u64 (nw y.1 1 : Int), .int .u64 (nw y.1 2 : Int), .int .u64 (nw y.1 3 : Int), .int .u64 (nw y.1 4 : Int), .int .u64 (nw y.1 5 : Int), .int .u64 (nw y.1 6 : Int), .bool y.2] 122)).grownBy w6 (Value.slice (some ⟨g', 0, none⟩) i cap').ownBlock → MtS w.heap.size (H + 1) w6 K R (.slice (some ⟨g6, 0, none⟩) (i + 1) cap6) (.slice a9 n c9) (M' ++ [y]) nx ∧ IRow w6 R ((r ++ [i]) ++ List.replicate (K - (c + 1)) 0) ∧ (r ++ [i]).length = c + 1 ∧ MidP st (S, b) M (M' ++ [y]) (r ++ [i]) ∧ (∀ y', y' ∈ M' ++ [y] → Rch K st (fs, fb) y') ∧ i + 1 ≤ 2000 ∧ Below w.heap.size w w6) := fun g6 cap6 w6 q1 q2 => by
        have hb6 : Below w5.heap.size w5 (w5.alloc (.cells #[.int .u64 (nw y.1 0 : Int), .int .u64 (nw y.1 1 : Int), .int .u64 (nw y.1 2 : Int), .int .u64 (nw y.1 3 : Int), .int .u64 (nw y.1 4 : Int), .int .u64 (nw y.1 5 : Int), .int .u64 (nw y.1 6 : Int), .bool y.2] 122)) := (Below.refl _ w5).alloc (Nat.le_refl _) _
        have hm6 : (w5.alloc (.cells #[.int .u64 (nw y.1 0 : Int), .int .u64 (nw y.1 1 : Int), .int .u64 (nw y.1 2 : Int), .int .u64 (nw y.1 3 : Int), .int .u64 (nw y.1 4 : Int), .int .u64 (nw y.1 5 : Int), .int .u64 (nw y.1 6 : Int), .bool y.2] 122)).ownsRow w.heap.size 122 8 (.slice (some ⟨g', 0, none⟩) i cap') M'.length (spFlat M') := by rw [← HM'.out.1]; exact own_later5 HM5.out hb6
        refine ⟨MtS.app (map_later HK5.out.1 hb6) HK5.out.2 hm6 (HN5.out.later hb6) q2 (by rw [← HM'.out.1]; exact q1), ?_, by simp [HM'.out.2], ?_, fun z hz => ?_, by omega, ?_⟩
        ·have hI6 := HI5.out.later hb6
         refine (q2.block R hI6.lt (fun e => ?_)).trans hI6
         obtain ⟨_, _, cur, hc⟩ := own_lt hm6 e.symm
         exact ne_ty hc hI6 (by decide) rfl
        ·have h1 := mid_new HMD.out HNEW.out
         rw [← HY.out, ← HM'.out.1] at h1
         exact h1
        ·rcases List.mem_append.1 hz with hz | hz
         ·exact HRZ.out z hz
         ·rw [List.mem_singleton.1 hz]; exact HYR.out
        ·exact (HW5.out.alloc HW5.out.size _).grown q2 (Nat.le_trans HW5.out.size hb6.size) (fun k e => (own_lt hm6 e).1)
       have HBS : Hid (w.heap.size ≤ w5.heap.size) := HW5.out.size
       clear hown4 hks4 hmt4 hnx4 hg4 hnew hieq ji jz0 jz1 jz2
       go_upto_region 12 with fail
       rw [← hw5]
       clear hw5 c1 f1
       go_upto_region 16 with (at_builtin; refine wpList_append_lies _ rfl _ _ 116 rfl w.heap.size 122 j0 _ 8 64 Tryd.underlying116 HJ.out.1 HJ.out.2.1 HJ.out.2.2.1 HJ.out.2.2.2 rfl (by decide) (.slice (some ⟨g', 0, none⟩) i cap') i (spFlat M') rfl (own_later5 HM5.out ((Below.refl _ w5).alloc (Nat.le_refl _) _)) ⟨w5.heap.size, 0, none⟩ 1 1 [.int .u64 (nw y.1 0 : Int), .int .u64 (nw y.1 1 : Int), .int .u64 (nw y.1 2 : Int), .int .u64 (nw y.1 3 : Int), .int .u64 (nw y.1 4 : Int), .int .u64 (nw y.1 5 : Int), .int .u64 (nw y.1 6 : Int), .bool y.2] rfl rfl (World.news_of_block (cs := #[.int .u64 (nw y.1 0 : Int), .int .u64 (nw y.1 1 : Int), .int .u64 (nw y.1 2 : Int), .int .u64 (nw y.1 3 : Int), .int .u64 (nw y.1 4 : Int), .int .u64 (nw y.1 5 : Int), .int .u64 (nw y.1 6 : Int), .bool y.2]) (t := 122) (fr := (0, 0)) (heap_alloc_new w5 _)) (by simp [Value.oneCell']) (by omega) (by unfold maxLen; omega) (by omega) (by have := HBS.out; simp; omega) _ rfl (fun g6 cap6 w6 q1 q2 q3 q4 => ?_); have HF := HFIN.out g6 cap6 w6 q1 q2; have HFH : Hid _ := HF; clear HF q1 q2 q3 q4)
       clear HFIN d0 d1 d2 d3 d4 d5 d6 d7
       go_wp2
       go_roundw
       case rel => exact ⟨c + 1, i + 1, g6, cap6, M' ++ [y], r ++ [i], by omega, rfl, by go_num, by simp [← HM'.out.1], rfl, HFH.out⟩
       case measure => simp [intOf]; omega
    ·have hcK : c = K := by omega
     have HCK : Hid (c = K) := hcK
     have hI : IRow wr R r := by
      have := HIZ.out
      rw [hcK, Nat.sub_self] at this
      simpa using this
     have HI : Hid (IRow wr R r) := hI
     obtain ⟨bs, hb1, hb2, hb3⟩ := HMZ.out.next
     have HBS3 : Hid (bs.length = nx.length ∧ ∀ (i b : Nat) (r : List Nat), bs[i]? = some b → nx[i]? = some r → IRow wr b r ∧ b < R) := ⟨hb1, hb3⟩
     have HO9 : Hid (wr.ownsRow w.heap.size 26 1 (.slice a9 n c9) n (bs.map (rowV K))) := by rw [HM.out.2]; rw [HM.out.2] at hb2; exact hb2
     obtain ⟨j0, ji, jz0, jz1, jz2⟩ := info_parts info_ints
     have HJ : Hid (Tryd.prog.info? 26 = some j0 ∧ j0.zero = some (.slice none 0 0) ∧ j0.size = 1 ∧ j0.bytes = 24) := ⟨ji, jz0, jz1, jz2⟩
     have HBS : Hid (w.heap.size ≤ wr.heap.size) := HBZ.out.size
     have HFIN : Hid (∀ (g6 cap6 : Nat) (w6 : World), w6.ownsRow w.heap.size 26 1 (.slice (some ⟨g6, 0, none⟩) (n + 1) cap6) (n + 1) (bs.map (rowV K) ++ [rowV K R]) → (wr.alloc (.cells #[.slice (some ⟨R, 0, none⟩) K K] 26)).grownBy w6 (Value.slice a9 n c9).ownBlock → MtS w.heap.size (H + 1) w6 K w6.heap.size (.slice (some ⟨g', 0, none⟩) m' cap') (.slice (some ⟨g6, 0, none⟩) (n + 1) cap6) M' (nx ++ [r]) ∧ MeetP K st (fs, fb) M' (nx ++ [r]) ∧ (∀ x, x ∈ M' → Rch K st (fs, fb) x) ∧ m' ≤ 2000 ∧ n + 1 ≤ m' ∧ Below w.heap.size w w6) := fun g6 cap6 w6 q1 q2 => by
      have hb6 : Below wr.heap.size wr (wr.alloc (.cells #[.slice (some ⟨R, 0, none⟩) K K] 26)) := (Below.refl _ wr).alloc (Nat.le_refl _) _
      have hRl := HI.out.lt
      have hsz : wr.heap.size ≤ w6.heap.size := Nat.le_trans hb6.size q2.size
      refine ⟨MtS.put (bs := bs) (HMZ.out.later hb6) HBS3.out.1 (by rw [← HM.out.2]; exact own_later5 HO9.out hb6) (fun i b r hi hr => ⟨(HBS3.out.2 i b r hi hr).1.later hb6, (HBS3.out.2 i b r hi hr).2⟩) (by omega) (HI.out.later hb6) (by omega) q2 (by rw [← HM.out.2]; exact q1), ?_, HRZ.out, hm2', by omega, ?_⟩
      ·exact mid_end HMP.out (by rw [← HM.out.2]; exact HX.out) HMD.out (by rw [HM'.out.2]; exact HCK.out)
      ·exact (HBZ.out.alloc HBZ.out.size _).grown q2 (Nat.le_trans HBZ.out.size hb6.size) (fun k e => (own_lt HO9.out e).1)
     obtain ⟨av, hav⟩ : ∃ av, av = bs.map (rowV K) := ⟨_, rfl⟩
     rw [← hav] at HO9 HFIN
     clear hcK hI hb1 hb2 hb3 ji jz0 jz1 jz2 hav
     unfold rowV at HFIN
     go_wp2_with (at_builtin; refine wpList_append_lies _ rfl _ _ 97 rfl w.heap.size 26 j0 _ 1 24 Tryd.underlying97 HJ.out.1 HJ.out.2.1 HJ.out.2.2.1 HJ.out.2.2.2 rfl (by decide) (.slice a9 n c9) n av rfl (own_later5 HO9.out ((Below.refl _ wr).alloc (Nat.le_refl _) _)) ⟨wr.heap.size, 0, none⟩ 1 1 [.slice (some ⟨R, 0, none⟩) K K] rfl rfl (World.news_of_block (cs := #[.slice (some ⟨R, 0, none⟩) K K]) (t := 26) (fr := (0, 0)) (heap_alloc_new wr _)) (by simp [Value.oneCell']) (by omega) (by unfold maxLen; omega) (by omega) (by have := HBS.out; simp; omega) _ rfl (fun g6 cap6 w6 q1 q2 q3 q4 => ?_); have HF := HFIN.out g6 cap6 w6 q1 q2; have HFH : Hid _ := HF; clear HF q1 q2 q3 q4)
     clear HFIN
     go_roundw
     case rel => exact ⟨M', nx ++ [r], m', n + 1, g', cap', _, cap6, HM'.out.1, by simp [HM.out.2], rfl, rfl, by go_num, HFH.out⟩
     case measure => simp [intOf]; omega
  ·obtain rfl : n = m := by omega
   have HF : Hid (MeetP K st (fs, fb) M nx ∧ nx.length = M.length ∧ M.length ≤ 2000 ∧ (∀ x, x ∈ M → Rch K st (fs, fb) x) ∧ wr.ownsRow w.heap.size 122 8 (.slice (some ⟨g, 0, none⟩) n cap) M.length (spFlat M) ∧ NxAt w.heap.size wr K wr.heap.size (.slice a9 n c9) nx) := ⟨HMP.out, by rw [← HM.out.2, HM.out.1], by rw [← HM.out.1]; exact hm2, HRC.out, HMT.out.met, HMT.out.next⟩
   go_wp2
   go_ret3
   exact ⟨HBW.out, .inl ⟨M, nx, _, _, rfl, HF.out⟩⟩
end Go.Proofs.YtclogekfdmikpaaDoor

/- What meet keeps in memory, of lists of numbers. -/
namespace Go.Proofs.YtclogekfdmikpaaDoor
open Go.RowKit Go.Shelf Go.Maps
set_option linter.unusedVariables false
set_option linter.unusedSimpArgs false

def NxR (B0 : Nat) (wr : World) (K R : Nat) (v9 : Value) (nx : List (List Nat)) : Prop :=
 ∃ bs : List Nat, bs.length = nx.length ∧ wr.ownsRow B0 26 1 v9 nx.length (bs.map (rowV K)) ∧ ∀ (i b : Nat) (r : List Nat), bs[i]? = some b → nx[i]? = some r → IRow wr b r ∧ b ≠ R
theorem NxR.nil (B0 : Nat) (wr : World) (K R : Nat) : NxR B0 wr K R (.slice none 0 0) [] := ⟨[], rfl, ⟨rfl, .inl ⟨rfl, rfl⟩⟩, fun i b r h => by simp at h⟩
theorem NxR.later {B0 : Nat} {w w' : World} {K R : Nat} {v9 : Value} {nx : List (List Nat)} (h : NxR B0 w K R v9 nx) (hb : Below w.heap.size w w') : NxR B0 w' K R v9 nx := by
 obtain ⟨bs, h1, h2, h3⟩ := h
 exact ⟨bs, h1, own_later5 h2 hb, fun i b r hi hr => ⟨(h3 i b r hi hr).1.later hb, (h3 i b r hi hr).2⟩⟩
theorem NxR.at_ {B0 : Nat} {w : World} {K R R' : Nat} {v9 : Value} {nx : List (List Nat)} (h : NxR B0 w K R v9 nx) (hR : w.heap.size ≤ R') : NxR B0 w K R' v9 nx := by
 obtain ⟨bs, h1, h2, h3⟩ := h
 exact ⟨bs, h1, h2, fun i b r hi hr => ⟨(h3 i b r hi hr).1, fun e => by have := (h3 i b r hi hr).1.lt; omega⟩⟩
theorem NxR.kept {B0 : Nat} {w w' : World} {K R : Nat} {v9 : Value} {nx : List (List Nat)} {g : Nat} (h : NxR B0 w K R v9 nx) (hg : w.grownBy w' (some g)) (h9 : v9.ownBlock ≠ some g) (hr : ∀ b r, IRow w b r → b ≠ R → b ≠ g) : NxR B0 w' K R v9 nx := by
 obtain ⟨bs, h1, h2, h3⟩ := h
 exact ⟨bs, h1, h2.kept hg (.inr h9), fun i b r hi hri => ⟨(h3 i b r hi hri).1.grown hg (hr b r (h3 i b r hi hri).1 (h3 i b r hi hri).2), (h3 i b r hi hri).2⟩⟩
theorem irow_own {B0 : Nat} {w w' : World} {K n : Nat} {v : Value} {xs : List Value} (h2 : w.ownsRow B0 26 1 v n xs) (hg : w.grownBy w' v.ownBlock) {b : Nat} {q : List Nat} (hb : IRow w b q) : IRow w' b q := by
 refine (hg.block b hb.lt (fun e => ?_)).trans hb
 obtain ⟨_, _, cur, hc⟩ := own_lt h2 e.symm
 exact ne_ty hc hb (by decide) rfl
theorem nxr_snoc {B0 : Nat} {w w' : World} {K R' : Nat} {v9 v' : Value} {nx : List (List Nat)} {b0 : Nat} {r : List Nat} {bs : List Nat} (h1 : bs.length = nx.length) (h2 : w.ownsRow B0 26 1 v9 nx.length (bs.map (rowV K))) (h3 : ∀ (i b : Nat) (r : List Nat), bs[i]? = some b → nx[i]? = some r → IRow w b r ∧ b ≠ R') (hR : IRow w b0 r) (hRX : b0 ≠ R') (hg : w.grownBy w' v9.ownBlock)
 (ho : w'.ownsRow B0 26 1 v' (nx.length + 1) (bs.map (rowV K) ++ [rowV K b0])) : NxR B0 w' K R' v' (nx ++ [r]) := by
 refine ⟨bs ++ [b0], by simp [h1], ?_, fun i b q hi hq => ?_⟩
 ·rw [List.length_append]
  simpa using ho
 ·rcases Nat.lt_or_ge i bs.length with hl | hl
  ·rw [List.getElem?_append_left hl] at hi
   rw [List.getElem?_append_left (by omega)] at hq
   exact ⟨irow_own (K := K) h2 hg (h3 i b q hi hq).1, (h3 i b q hi hq).2⟩
  ·rw [List.getElem?_append_right hl] at hi
   rw [List.getElem?_append_right (by omega)] at hq
   have h0 : i - bs.length = 0 := by
    have := (List.getElem?_eq_some_iff.1 hi).1
    simp at this
    omega
   rw [h0] at hi
   rw [show i - nx.length = 0 by omega] at hq
   simp at hi hq
   subst hi hq
   exact ⟨irow_own (K := K) h2 hg hR, hRX⟩
theorem NxR.other {B0 B1 : Nat} {w w' : World} {K R n : Nat} {v8 v9 : Value} {xs : List Value} {nx : List (List Nat)} (h : NxR B0 w K R v9 nx) (h8 : w.ownsRow B1 26 1 v8 n xs) (hg : w.grownBy w' v8.ownBlock) (hap : ∀ g, v8.ownBlock = some g → v9.ownBlock ≠ some g) : NxR B0 w' K R v9 nx := by
 obtain ⟨bs, h1, h2, h3⟩ := h
 refine ⟨bs, h1, h2.kept hg ?_, fun i b r hi hr => ⟨irow_own (K := K) h8 hg (h3 i b r hi hr).1, (h3 i b r hi hr).2⟩⟩
 cases hx : v9.ownBlock with
 | none => exact .inl rfl
 | some g => exact .inr fun e => hap g e.symm hx
theorem NxR.own9 {B0 : Nat} {w : World} {K R : Nat} {v9 : Value} {nx : List (List Nat)} (h : NxR B0 w K R v9 nx) {g : Nat} (hg : v9.ownBlock = some g) : B0 ≤ g ∧ g < w.heap.size ∧ ∃ cur, w.heap[g]? = some (.cells cur 26 (0, 0)) := by
 obtain ⟨bs, _, h2, _⟩ := h
 exact own_lt h2 hg
def litL (l : List Nat) : Lit := .string (tS (tx l)).data.toList
theorem litL_inj {x y : List Nat} {L : Nat} (hx : x.length = L ∧ ∀ n, n ∈ x → n < 2 ^ 63) (hy : y.length = L ∧ ∀ n, n ∈ y → n < 2 ^ 63) (h : litL x = litL y) : x = y := by
 have hx' : ∀ n ∈ x, n < 2 ^ 64 := fun n hn => by have := hx.2 n hn; omega
 have hy' : ∀ n ∈ y, n < 2 ^ 64 := fun n hn => by have := hy.2 n hn; omega
 have h1 := tS_inj (tx_rng _ hx') (tx_rng _ hy') (Go.Lit.string.inj h)
 exact tx_inj x y hx' hy' (hx.1.trans hy.1.symm) h1
structure MtL (B0 Bk : Nat) (wr : World) (L K R : Nat) (v8 v9 : Value) (M nx : List (List Nat)) : Prop where
 known : wr.ownsMap Tryd.prog 9 (plainElem (H := Unit) Tryd.prog 3) Bk M.length (kD (M.map litL))
 keysy : Keysy (M.map litL)
 met : NxR B0 wr L R v8 M
 next : NxR B0 wr K R v9 nx
 apart : ∀ g, v8.ownBlock = some g → v9.ownBlock ≠ some g
theorem MtL.later {B0 Bk : Nat} {w w' : World} {L K R : Nat} {v8 v9 : Value} {M nx : List (List Nat)} (h : MtL B0 Bk w L K R v8 v9 M nx) (hb : Below w.heap.size w w') : MtL B0 Bk w' L K R v8 v9 M nx :=
 ⟨map_later h.known hb, h.keysy, h.met.later hb, h.next.later hb, h.apart⟩
theorem MtL.at_ {B0 Bk : Nat} {w : World} {L K R R' : Nat} {v8 v9 : Value} {M nx : List (List Nat)} (h : MtL B0 Bk w L K R v8 v9 M nx) (hR : w.heap.size ≤ R') : MtL B0 Bk w L K R' v8 v9 M nx :=
 ⟨h.known, h.keysy, h.met.at_ hR, h.next.at_ hR, h.apart⟩
theorem MtL.num {B0 Bk : Nat} {w w' : World} {L K R : Nat} {v8 v9 : Value} {M nx : List (List Nat)} (h : MtL B0 Bk w L K R v8 v9 M nx) (hg : w.grownBy w' (some Bk)) : NxR B0 w' L R v8 M ∧ NxR B0 w' K R v9 nx := by
 refine ⟨h.met.kept hg (fun e => ?_) (fun b r hb _ e => ?_), h.next.kept hg (fun e => ?_) (fun b r hb _ e => ?_)⟩
 ·obtain ⟨_, _, cur, hc⟩ := h.met.own9 e; exact ne_map h.known hc rfl
 ·exact ne_map h.known hb e
 ·obtain ⟨_, _, cur, hc⟩ := h.next.own9 e; exact ne_map h.known hc rfl
 ·exact ne_map h.known hb e
theorem MtL.row {B0 Bk : Nat} {w : World} {L K R : Nat} {v8 v9 : Value} {M nx : List (List Nat)} {r : List Nat} (h : MtL B0 Bk w L K R v8 v9 M nx) (hR : IRow w R r) (i : Nat) (v : Value) : MtL B0 Bk (w.setCell ⟨R, i, none⟩ v) L K R v8 v9 M nx := by
 have hg := grown_cell w R i v
 refine ⟨h.known.setCell (fun e => ne_map h.known hR e.symm) v, h.keysy, h.met.kept hg (fun e => ?_) (fun b q hb hlt => hlt), h.next.kept hg (fun e => ?_) (fun b q hb hlt => hlt), h.apart⟩
 ·obtain ⟨_, _, cur, hc⟩ := h.met.own9 e; exact ne_ty hc hR (by decide) rfl
 ·obtain ⟨_, _, cur, hc⟩ := h.next.own9 e; exact ne_ty hc hR (by decide) rfl
theorem MtL.app {B0 Bk : Nat} {w w' : World} {L K R : Nat} {v8 v8' v9 : Value} {M nx : List (List Nat)} {y : List Nat} {b0 : Nat} {bs : List Nat}
 (hk : w.ownsMap Tryd.prog 9 (plainElem (H := Unit) Tryd.prog 3) Bk (M ++ [y]).length (kD ((M ++ [y]).map litL))) (hks : Keysy ((M ++ [y]).map litL)) (h1 : bs.length = M.length) (h2 : w.ownsRow B0 26 1 v8 M.length (bs.map (rowV L))) (h3 : ∀ (i b : Nat) (r : List Nat), bs[i]? = some b → M[i]? = some r → IRow w b r ∧ b ≠ R)
 (hR : IRow w b0 y) (hRX : b0 ≠ R) (hn : NxR B0 w K R v9 nx) (hap : ∀ g, v8.ownBlock = some g → v9.ownBlock ≠ some g) (hap' : ∀ g, v8'.ownBlock = some g → v9.ownBlock ≠ some g)
 (hg : w.grownBy w' v8.ownBlock) (ho : w'.ownsRow B0 26 1 v8' (M.length + 1) (bs.map (rowV L) ++ [rowV L b0])) : MtL B0 Bk w' L K R v8' v9 (M ++ [y]) nx :=
 ⟨hk.kept hg (fun e => by obtain ⟨_, _, cur, hc⟩ := own_lt h2 e.symm; exact ne_map hk hc rfl), hks, nxr_snoc h1 h2 h3 hR hRX hg ho, hn.other h2 hg hap, hap'⟩
theorem MtL.put {B0 Bk : Nat} {w w' : World} {L K R R' : Nat} {v8 v9 v9' : Value} {M nx : List (List Nat)} {r : List Nat} {bs : List Nat} (h : MtL B0 Bk w L K R v8 v9 M nx) (h1 : bs.length = nx.length) (h2 : w.ownsRow B0 26 1 v9 nx.length (bs.map (rowV K))) (h3 : ∀ (i b : Nat) (r : List Nat), bs[i]? = some b → nx[i]? = some r → IRow w b r ∧ b ≠ R)
 (hR : IRow w R r) (hR' : w.heap.size ≤ R') (hap' : ∀ g, v8.ownBlock = some g → v9'.ownBlock ≠ some g) (hg : w.grownBy w' v9.ownBlock) (ho : w'.ownsRow B0 26 1 v9' (nx.length + 1) (bs.map (rowV K) ++ [rowV K R])) : MtL B0 Bk w' L K R' v8 v9' M (nx ++ [r]) := by
 refine ⟨h.known.kept hg (fun e => by obtain ⟨_, _, cur, hc⟩ := own_lt h2 e.symm; exact ne_map h.known hc rfl), h.keysy, (h.met.at_ hR').other h2 hg (fun g e1 e2 => h.apart g e2 e1), nxr_snoc h1 h2 (fun i b q hi hq => ⟨(h3 i b q hi hq).1, fun e => by have := (h3 i b q hi hq).1.lt; omega⟩) hR (by have := hR.lt; omega) hg ho, hap'⟩
end Go.Proofs.YtclogekfdmikpaaDoor
