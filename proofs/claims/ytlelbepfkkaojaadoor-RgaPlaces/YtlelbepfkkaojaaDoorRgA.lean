/- A text in memory: its elements, its operations, the map of each author's last one, its index; what of it stays. -/
import Derived.Test.YtlelbepfkkaojaaDoorRgI
import Derived.Test.YtlelbepfkkaojaaDoorIxH
import Derived.Maps.Own
import Derived.Maps.OwnOps
import Derived.Maps.OwnSet
import Derived.Lib.SlKeysI
namespace Go.Proofs.YtlelbepfkkaojaaDoor
open Go.RowKit Go.Shelf Go.Maps
set_option linter.unusedVariables false
set_option linter.unusedSimpArgs false

/-- An element as it is kept. -/
def elOf (O : List Opn) (e : Opn) : El := (e.c, e.a, e.ch, !deadE O e.id)
def els (O : List Opn) : List El := (seqE O).map (elOf O)
theorem els_len (O : List Opn) : (els O).length = (seqE O).length := by simp [els]
/-- The marks of the index. -/
def marks (O : List Opn) : List Bool := (seqE O).map fun e => !deadE O e.id
theorem marks_len (O : List Opn) : (marks O).length = (seqE O).length := by simp [marks]
/-- The greatest counter. -/
def topO (O : List Opn) : Int := O.foldl (fun t o => max t o.c) 0
theorem topO_snoc (O : List Opn) (x : Opn) : topO (O ++ [x]) = max (topO O) x.c := by simp [topO]
/-- How the map's values are read. -/
def RH (v : Value) : Option (DataW Value × List MemPlace) := some (.held v, [])
/-- The map as a datum. -/
def mD (O : List Opn) : DataW Value := O.foldl (fun D o => D.put (.int .i64 o.a) (.held o.val)) (.map [])
theorem mD_snoc (O : List Opn) (x : Opn) : mD (O ++ [x]) = (mD O).put (.int .i64 x.a) (.held x.val) := by simp [mD]
theorem mD_tidy (O : List Opn) : Maps.Tidy (mD O) := by
  refine snocR (P := fun O => Maps.Tidy (mD O)) Maps.tidy_empty (fun O x ih => ?_) O
  rw [mD_snoc]
  exact ih.put (by simp [WideAt.IsKeyLit]) _
theorem mD_at (O : List Opn) (a : Int) : (mD O).atKey (.int .i64 a) (.held op0.val) = .held (lastO O a).val := by
  refine snocR (P := fun O => (mD O).atKey (.int .i64 a) (.held op0.val) = .held (lastO O a).val) rfl (fun O x ih => ?_) O
  rw [mD_snoc, lastO_snoc]
  by_cases h : x.a = a
  · rw [if_pos h, h]
    exact Maps.atKey_put_same (mD_tidy O).isMap (by simp [WideAt.IsKeyLit]) _ _
  · rw [if_neg h, Maps.atKey_put_other (fun e => h (by injection e with _ e; exact e.symm))]
    exact ih
theorem mD_has (O : List Opn) (a : Int) : Maps.has (mD O) (.int .i64 a) = true ↔ ∃ o ∈ O, o.a = a := by
  refine snocR (P := fun O => (Maps.has (mD O) (.int .i64 a) = true ↔ ∃ o ∈ O, o.a = a)) (by simp [mD, Maps.has]) (fun O x ih => ?_) O
  rw [mD_snoc]
  by_cases h : x.a = a
  · rw [h, Maps.has_put_same (mD_tidy O).isMap (by simp [WideAt.IsKeyLit])]
    simp only [true_iff]
    exact ⟨x, by simp, h⟩
  · rw [Maps.has_put_other (fun e => h (by injection e with _ e; exact e.symm)), ih]
    constructor
    · rintro ⟨o, ho, q⟩; exact ⟨o, by simp [ho], q⟩
    · rintro ⟨o, ho, q⟩
      rcases List.mem_append.1 ho with ho | ho
      · exact ⟨o, ho, q⟩
      · rw [List.mem_singleton.1 ho] at q; exact absurd q h
/-- A text in memory, part by part. -/
structure TxM (W : World) (P B : Nat) (ve vo vi : Value) (Q M : Nat) (rs : List El) (L : List Bool) (O : List Opn) (D : DataW Value) (top : Int) : Prop where
  blk : W.heap[P]? = some (.cells #[ve, .pointer (some ⟨Q, 0, none⟩), vo, .map (some M), .int .i64 top] 49)
  elm : W.ownsRow B 56 4 ve rs.length (flatEl rs)
  ops : W.ownsRow B 32 7 vo O.length (flatP O)
  idx : IxAt W Q B vi L
  map : W.ownsMap Tryd.prog 3 RH M O.length D
  hP : B ≤ P
  hM : B ≤ M
/-- A text in memory. -/
abbrev TxAt (W : World) (P B : Nat) (ve vo vi : Value) (Q M : Nat) (O : List Opn) : Prop := TxM W P B ve vo vi Q M (els O) (marks O) O (mD O) (topO O)
/-- Which blocks are a text's. -/
def OwnT (P : Nat) (ve vo vi : Value) (Q M : Nat) (k : Nat) : Prop := k = P ∨ ve.ownBlock = some k ∨ vo.ownBlock = some k ∨ OwnX Q vi k ∨ k = M
theorem cg_map {w W : World} {Q : Nat → Prop} {b n : Nat} {D : DataW Value} (h : Chg w W Q) (ho : w.ownsMap Tryd.prog 3 RH b n D) (hq : ¬ Q b) : W.ownsMap Tryd.prog 3 RH b n D := by
  obtain ⟨es, clock, hb, F, hs, hD⟩ := ho
  exact ⟨es, clock, (h.2.2.2.2 b (Array.getElem?_eq_some_iff.1 hb).1 hq).trans hb, F, hs, hD⟩
theorem TxM.keep {w W : World} {R : Nat → Prop} {P B Q M : Nat} {ve vo vi : Value} {rs : List El} {L : List Bool} {O : List Opn} {D : DataW Value} {top : Int} (h : TxM w P B ve vo vi Q M rs L O D top) (hc : Chg w W R) (hq : ∀ k, OwnT P ve vo vi Q M k → ¬ R k) : TxM W P B ve vo vi Q M rs L O D top :=
  ⟨cg_heap hc h.blk (hq P (.inl rfl)), cg_own hc h.elm (fun k hk => hq k (.inr (.inl hk))), cg_own hc h.ops (fun k hk => hq k (.inr (.inr (.inl hk)))), h.idx.keep hc (fun k hk => hq k (.inr (.inr (.inr (.inl hk))))), cg_map hc h.map (hq M (.inr (.inr (.inr (.inr rfl))))), h.hP, h.hM⟩
theorem TxM.later {w W : World} {P B Q M : Nat} {ve vo vi : Value} {rs : List El} {L : List Bool} {O : List Opn} {D : DataW Value} {top : Int} (h : TxM w P B ve vo vi Q M rs L O D top) (hb : Below w.heap.size w W) : TxM W P B ve vo vi Q M rs L O D top := h.keep (R := fun _ => False) (cg_below hb _) (fun _ _ h => h)
theorem ne_tyX {w : World} {i j : Nat} {a b : Array Value} {s t : TypeId} {f g : Nat × Nat} (hi : w.heap[i]? = some (.cells a s f)) (hj : w.heap[j]? = some (.cells b t g)) (h : s ≠ t) : i ≠ j := by
  rintro rfl
  rw [hi] at hj
  cases hj
  exact h rfl
theorem ne_mapX {w : World} {i j : Nat} {a : Array Value} {s : TypeId} {f : Nat × Nat} {es : Array MapEntry} {c : Nat} (hi : w.heap[i]? = some (.cells a s f)) (hj : w.heap[j]? = some (.map es c)) : i ≠ j := by
  rintro rfl
  rw [hi] at hj
  cases hj
theorem own_cur {w : World} {B n s : Nat} {e : TypeId} {v : Value} {xs : List Value} (h : w.ownsRow B e s v n xs) {k : Nat} (hk : v.ownBlock = some k) : B ≤ k ∧ ∃ cur, w.heap[k]? = some (.cells cur e) := by
  rcases h.2 with ⟨rfl, _⟩ | ⟨g, cap, cur, rfl, hb, hg, _⟩
  · cases hk
  · obtain rfl : g = k := Option.some.inj hk
    exact ⟨hb, cur, hg⟩
/-- A text's blocks are apart, and behind all that was. -/
theorem TxM.apart {W : World} {P B Q M : Nat} {ve vo vi : Value} {rs : List El} {L : List Bool} {O : List Opn} {D : DataW Value} {top : Int} (h : TxM W P B ve vo vi Q M rs L O D top) :
    ve.ownBlock ≠ some P ∧ vo.ownBlock ≠ some P ∧ vi.ownBlock ≠ some P ∧ Q ≠ P ∧ M ≠ P ∧ (∀ k, ve.ownBlock = some k → vo.ownBlock ≠ some k ∧ ¬ OwnX Q vi k ∧ k ≠ M) ∧ (∀ k, vo.ownBlock = some k → ¬ OwnX Q vi k ∧ k ≠ M) ∧ ¬ OwnX Q vi M ∧ ¬ OwnX Q vi P := by
  obtain ⟨h1, h2, h3, ⟨Bs, hg, hf, hx⟩, ⟨es, clock, hm, _⟩, _, _⟩ := h
  have hQ := hx.1
  have e1 : ∀ k, ve.ownBlock = some k → ∃ cur, W.heap[k]? = some (.cells cur 56) := fun k hk => (own_cur h2 hk).2
  have e2 : ∀ k, vo.ownBlock = some k → ∃ cur, W.heap[k]? = some (.cells cur 32) := fun k hk => (own_cur h3 hk).2
  have e3 : ∀ k, vi.ownBlock = some k → ∃ cur, W.heap[k]? = some (.cells cur 77) := fun k hk => (own_cur hx.2.1 hk).2
  refine ⟨fun e => ?_, fun e => ?_, fun e => ?_, ne_tyX hQ h1 (by decide), (ne_mapX h1 hm).symm, fun k hk => ⟨fun e => ?_, ?_, ?_⟩, fun k hk => ⟨?_, ?_⟩, ?_, ?_⟩
  · obtain ⟨c, q⟩ := e1 P e; exact ne_tyX q h1 (by decide) rfl
  · obtain ⟨c, q⟩ := e2 P e; exact ne_tyX q h1 (by decide) rfl
  · obtain ⟨c, q⟩ := e3 P e; exact ne_tyX q h1 (by decide) rfl
  · obtain ⟨c, q⟩ := e1 k hk
    obtain ⟨d, r⟩ := e2 k e
    exact ne_tyX q r (by decide) rfl
  · obtain ⟨c, q⟩ := e1 k hk
    rintro (e | e)
    · exact ne_tyX q hQ (by decide) e
    · obtain ⟨d, r⟩ := e3 k e; exact ne_tyX q r (by decide) rfl
  · obtain ⟨c, q⟩ := e1 k hk
    exact ne_mapX q hm
  · obtain ⟨c, q⟩ := e2 k hk
    rintro (e | e)
    · exact ne_tyX q hQ (by decide) e
    · obtain ⟨d, r⟩ := e3 k e; exact ne_tyX q r (by decide) rfl
  · obtain ⟨c, q⟩ := e2 k hk
    exact ne_mapX q hm
  · rintro (e | e)
    · exact ne_mapX hQ hm e.symm
    · obtain ⟨d, r⟩ := e3 M e; exact ne_mapX r hm rfl
  · rintro (e | e)
    · exact ne_tyX hQ h1 (by decide) e.symm
    · obtain ⟨d, r⟩ := e3 P e; exact ne_tyX r h1 (by decide) rfl
theorem TxM.ge {W : World} {P B Q M k : Nat} {ve vo vi : Value} {rs : List El} {L : List Bool} {O : List Opn} {D : DataW Value} {top : Int} (h : TxM W P B ve vo vi Q M rs L O D top) (hk : OwnT P ve vo vi Q M k) : B ≤ k ∧ k < W.heap.size := by
  rcases hk with rfl | hk | hk | hk | rfl
  · exact ⟨h.hP, (Array.getElem?_eq_some_iff.1 h.blk).1⟩
  · exact h.elm.lt k hk
  · exact h.ops.lt k hk
  · exact own_ge h.idx hk
  · exact ⟨h.hM, h.map.lt⟩
theorem TxM.cells {W : World} {P B Q M : Nat} {ve vo vi : Value} {rs : List El} {L : List Bool} {O : List Opn} {D : DataW Value} {top : Int} (h : TxM W P B ve vo vi Q M rs L O D top) : W.cell? ⟨P, 0, none⟩ = some ve ∧ W.cell? ⟨P, 1, none⟩ = some (.pointer (some ⟨Q, 0, none⟩)) ∧ W.cell? ⟨P, 2, none⟩ = some vo ∧ W.cell? ⟨P, 3, none⟩ = some (.map (some M)) ∧ W.cell? ⟨P, 4, none⟩ = some (.int .i64 top) ∧ ∀ j, W.frozen? ⟨P, j, none⟩ = false :=
  ⟨cell_of_row W P 0 _ _ _ h.blk, cell_of_row W P 1 _ _ _ h.blk, cell_of_row W P 2 _ _ _ h.blk, cell_of_row W P 3 _ _ _ h.blk, cell_of_row W P 4 _ _ _ h.blk, fun j => Lib.frozen_of_heap h.blk _⟩
theorem zero_op (W : World) : (zeroValue 32).run Tryd.prog W = .ok op0.val W := Tryd.zeroValue32 W
/-- An author's last operation is looked up. -/
theorem TxAt.look {W : World} {P B Q M : Nat} {ve vo vi : Value} {O : List Opn} (h : TxAt W P B ve vo vi Q M O) (a : Int) (ha : (Lit.int .i64 a).wf = true) : (Instr.lookup 46 (.map (some M)) (.int .i64 a) false).run Tryd.prog W = .ok (lastO O a).val W := by
  obtain ⟨v, ps, h1, h2⟩ := h.map.lookup (int_keyed Tryd.underlying3) Tryd.underlying46 (zero_op W) (zd := .held op0.val) (zp := []) rfl (keyOf_int_mk Tryd.underlying3 ha)
  rw [mD_at] at h2
  unfold RH at h2
  simp only [Option.some.injEq, Prod.mk.injEq, DataW.held.injEq] at h2
  rw [h1, h2.1]
theorem flatEl_at : (rs : List El) → (i : Nat) → i < rs.length → ∀ j, j < 4 → (flatEl rs)[i * 4 + j]? = (encEl (rs.getD i (0, 0, 0, false)))[j]?
  | [], i, h, _, _ => absurd h (by simp)
  | x :: r, 0, _, j, hj => by
    rw [flatEl_one, Nat.zero_mul, Nat.zero_add, List.getElem?_append_left (by show j < 4; omega)]; rfl
  | x :: r, i + 1, h, j, hj => by
    have h3 : (encEl x).length = 4 := rfl
    rw [flatEl_one, List.getElem?_append_right (by omega), h3, show (i + 1) * 4 + j - 4 = i * 4 + j by omega, flatEl_at r i (by simpa using h) j hj]
    rfl
/-- One element of a row of elements. -/
theorem own_el {W : World} {B : Nat} {v : Value} {rs : List El} (h : W.ownsRow B 56 4 v rs.length (flatEl rs)) (i : Nat) (hi : i < rs.length) :
    ∃ g cap, v = .slice (some ⟨g, 0, none⟩) rs.length cap ∧ B ≤ g ∧ rs.length ≤ cap ∧ W.cell? ⟨g, i * 4, none⟩ = some (.int .i64 (rs.getD i (0, 0, 0, false)).1) ∧ W.cell? ⟨g, i * 4 + 1, none⟩ = some (.int .i64 (rs.getD i (0, 0, 0, false)).2.1) ∧ W.cell? ⟨g, i * 4 + 2, none⟩ = some (.int .i32 (rs.getD i (0, 0, 0, false)).2.2.1) ∧ W.cell? ⟨g, i * 4 + 3, none⟩ = some (.bool (rs.getD i (0, 0, 0, false)).2.2.2) ∧ W.frozen? ⟨g, i * 4 + 3, none⟩ = false := by
  rcases h.2 with ⟨_, h0⟩ | ⟨g, cap, cur, rfl, hb, hg, hn, hm, hs, ht⟩
  · omega
  · have hc : ∀ j, j < 4 → W.cell? ⟨g, i * 4 + j, none⟩ = (encEl (rs.getD i (0, 0, 0, false)))[j]? := by
      intro j hj
      rw [cell_of_row W g _ _ _ _ hg, ← flatEl_at rs i hi j hj, ← ht, List.getElem?_take, if_pos (by omega)]
      simp
    exact ⟨g, cap, rfl, hb, hn, hc 0 (by omega), hc 1 (by omega), hc 2 (by omega), hc 3 (by omega), Lib.frozen_of_heap hg _⟩
theorem flatEl_set (rs : List El) (i : Nat) (hi : i < rs.length) (b : Bool) : flatEl (rs.set i ((rs.getD i (0, 0, 0, false)).1, (rs.getD i (0, 0, 0, false)).2.1, (rs.getD i (0, 0, 0, false)).2.2.1, b)) = (flatEl rs).set (i * 4 + 3) (.bool b) := by
  induction rs generalizing i with
  | nil => simp at hi
  | cons x r ih =>
    cases i with
    | zero => simp [flatEl_one, encEl]
    | succ i =>
      have h3 : (encEl x).length = 4 := rfl
      rw [List.set_cons_succ, flatEl_one, flatEl_one, List.set_append_right _ _ (by omega), h3, show (i + 1) * 4 + 3 - 4 = i * 4 + 3 by omega]
      rw [← ih i (by simpa using hi)]
      rfl
/-- An element is made one that is alive, or not. -/
theorem own_el_set {W : World} {B g cap : Nat} {rs : List El} (h : W.ownsRow B 56 4 (.slice (some ⟨g, 0, none⟩) rs.length cap) rs.length (flatEl rs)) (i : Nat) (hi : i < rs.length) (b : Bool) :
    (W.setCell ⟨g, i * 4 + 3, none⟩ (.bool b)).ownsRow B 56 4 (.slice (some ⟨g, 0, none⟩) rs.length cap) rs.length (flatEl (rs.set i ((rs.getD i (0, 0, 0, false)).1, (rs.getD i (0, 0, 0, false)).2.1, (rs.getD i (0, 0, 0, false)).2.2.1, b))) := by
  rcases h.2 with ⟨h1, _⟩ | ⟨g', cap', cur, h1, hb, hg, hn, hm, hs, ht⟩
  · cases h1
  · cases h1
    refine ⟨by rw [flatEl_len]; simp; omega, .inr ⟨g, cap, _, rfl, hb, heap_setX W g _ _ _ _ _ hg, hn, hm, by simpa using hs, ?_⟩⟩
    rw [flatEl_set rs i hi b, ← ht]
    simp only [Array.toList_setIfInBounds]
    rw [List.take_set]

/-- The place of an ID in a row; -1: it is not there. -/
def ixI : List (Int × Int) → Int × Int → Int
  | [], _ => -1
  | y :: r, x => if y = x then 0 else if ixI r x < 0 then -1 else ixI r x + 1
theorem ix_none : (l : List (Int × Int)) → (x : Int × Int) → x ∉ l → ixI l x = -1
  | [], x, _ => rfl
  | y :: r, x, h => by
    rw [ixI, if_neg (fun e => h (by simp [e])), ix_none r x (fun e => h (by simp [e])), if_pos (by omega)]
theorem ix_at : (l : List (Int × Int)) → (x : Int × Int) → l.Nodup → (i : Nat) → l[i]? = some x → ixI l x = (i : Int)
  | [], x, _, i, h => by simp at h
  | y :: r, x, hn, 0, h => by
    rw [List.getElem?_cons_zero] at h
    cases h
    rw [ixI, if_pos rfl]; rfl
  | y :: r, x, hn, i + 1, h => by
    rw [List.getElem?_cons_succ] at h
    have hm : x ∈ r := List.mem_of_getElem? h
    obtain ⟨n1, n2⟩ := List.nodup_cons.1 hn
    rw [ixI, if_neg (fun e : y = x => n1 (e ▸ hm)), ix_at r x n2 i h, if_neg (by omega), Int.natCast_add]; rfl
/-- Where an element is. -/
def fIx (O : List Opn) (i : Int × Int) : Int := ixI ((seqE O).map Opn.id) i
theorem fIx_none (O : List Opn) (i : Int × Int) (h : hasE O i = false) : fIx O i = -1 := by
  refine ix_none _ _ fun hm => ?_
  obtain ⟨e, he, q⟩ := List.mem_map.1 hm
  rw [(hasE_seq O i).2 ⟨e, he, q⟩] at h
  cases h
theorem fIx_some (O : List Opn) (hv : Rv O) (i : Int × Int) (h : hasE O i = true) : ∃ n : Nat, fIx O i = (n : Int) ∧ n < (seqE O).length ∧ ((seqE O).map Opn.id)[n]? = some i := by
  obtain ⟨e, he, q⟩ := (hasE_seq O i).1 h
  obtain ⟨n, hn, q2⟩ := List.getElem_of_mem he
  have h2 : ((seqE O).map Opn.id)[n]? = some i := by rw [List.getElem?_map, List.getElem?_eq_getElem hn, q2]; simp [q]
  exact ⟨n, ix_at _ _ (seqE_nodup hv) n h2, hn, h2⟩
theorem fIx_neg (O : List Opn) (hv : Rv O) (i : Int × Int) : decide (fIx O i < 0) = !hasE O i := by
  cases h : hasE O i
  · rw [fIx_none O i h]; rfl
  · obtain ⟨n, h1, _⟩ := fIx_some O hv i h
    rw [h1]
    simp
theorem els_at (O : List Opn) (i : Nat) (h : i < (els O).length) : ∃ e, e ∈ seqE O ∧ (seqE O)[i]? = some e ∧ (els O).getD i (0, 0, 0, false) = elOf O e := by
  rw [els_len] at h
  refine ⟨(seqE O)[i], List.getElem_mem h, List.getElem?_eq_getElem h, ?_⟩
  simp [els, h]
theorem insE_len (x : Opn) (l : List Opn) : (insE x l).length = l.length + 1 := by
  obtain ⟨A, B, h1, h2⟩ := insE_split x l
  rw [h2, h1]
  simp
  omega
theorem seqE_len (O : List Opn) : (seqE O).length ≤ O.length := by
  refine snocR (P := fun O => (seqE O).length ≤ O.length) (by simp [seqE]) (fun O x ih => ?_) O
  rw [seqE_snoc]
  split
  · rw [insE_len]; simp; omega
  · simp; omega
/-- An element's ID, by its place. -/
def idAt (O : List Opn) (k : Nat) : Int × Int := (((els O).getD k (0, 0, 0, false)).1, ((els O).getD k (0, 0, 0, false)).2.1)
theorem idAt_some (O : List Opn) (k : Nat) (hk : k < (els O).length) : ((seqE O).map Opn.id)[k]? = some (idAt O k) := by
  obtain ⟨e, _, h1, h2⟩ := els_at O k hk
  rw [List.getElem?_map, h1]
  unfold idAt
  rw [h2]
  rfl
theorem fIx_at (O : List Opn) (hv : Rv O) (i : Int × Int) (k : Nat) (hk : k < (els O).length) (h : idAt O k = i) : fIx O i = (k : Int) :=
  ix_at _ _ (seqE_nodup hv) k (by rw [idAt_some O k hk, h])
theorem fIx_no (O : List Opn) (i : Int × Int) (h : ∀ k, k < (els O).length → idAt O k ≠ i) : fIx O i = -1 := by
  refine ix_none _ _ fun hm => ?_
  obtain ⟨k, hk, q⟩ := List.getElem_of_mem hm
  have hk2 : k < (els O).length := by rw [els_len]; simpa using hk
  refine h k hk2 ?_
  have := idAt_some O k hk2
  rw [List.getElem?_eq_getElem hk, q] at this
  exact (Option.some.inj this).symm
theorem fIx_zero (O : List Opn) (hv : Rv O) : fIx O (0, 0) = -1 := by
  refine fIx_none O _ ?_
  rw [Bool.eq_false_iff]
  intro h
  obtain ⟨o, ho, _, q⟩ := (hasE_iff O _).1 h
  exact id_ne0 (rv_op hv o ho) q
theorem fIx_far (O : List Opn) (hv : Rv O) (i : Int × Int) (h : (lastO O i.2).c < i.1) : fIx O i = -1 := by
  refine fIx_none O _ ?_
  rw [Bool.eq_false_iff]
  intro h2
  obtain ⟨o, ho, _, q⟩ := (hasE_iff O _).1 h2
  have := ((rv_last hv).1 o ho).1
  rw [← q] at h
  have h3 : (lastO O o.a).c < o.c := h
  omega
end Go.Proofs.YtlelbepfkkaojaaDoor
