/- Plain laws of rows of entries (two cells each); the walk of the library's Insert of one entry into a row of the caller's own. Written by mkins.py. -/
import Derived.Test.YtcbnmahbdcjamaaIdC
import Derived.Laws.IdiomCopy
import Derived.Laws.NewBlocks
import Derived.Shelf.Spec.SlicesInsertGrow
import Derived.Deep.RegionLaw
namespace Go.Proofs.Ytcbnmahbdcjamaa
open Go.RowKit
set_option linter.unusedVariables false

/-- 'copy' of records of k cells: all is read before anything is written. -/
theorem run_copyK {P : Program} (w : World) (dT sT ty elem : TypeId) (k b o dLen dCap : Nat) (a : Addr) (sLen sCap n : Nat) (cs : List Value)
    (hu : P.underlying dT = some (.slice elem)) (hs : (P.info? elem).map (·.size) = some k) (hn : n = Nat.min sLen dLen) (hl : cs.length = n * k)
    (hsrc : ∀ j v, cs[j]? = some v → w.cell? (a.add j) = some v) (hc : ∀ j, j < cs.length → (w.cell? ⟨b, o + j, none⟩).isSome = true) (hf : ∀ j, j < cs.length → w.frozen? ⟨b, o + j, none⟩ = false) (h1 : ∀ v ∈ cs, v.oneCell' = true) :
    (Builtin.copy_ #[dT, sT] ty #[.slice (some ⟨b, o, none⟩) dLen dCap, .slice (some a) sLen sCap]).run P w = .ok (goInt n) (w.setCells b o cs) := by
  have hld := run_loadCells_list (P := P) w a cs hsrc
  have hst := run_storeCells_cells (P := P) b o cs 0 w (by simpa using hc) (by simpa using hf) h1
  rw [hl] at hld
  cases hq : P.info? elem with
  | none => simp [hq] at hs
  | some i =>
    have hi : i.size = k := by simpa [hq] using hs
    simp [Builtin.copy_, run_underlying hu, Builtin.lenOf, Builtin.firstCells, sizeOf, typeInfo, hq, hi, ← hn, hld, hst]
/-- A block's cells, some of them set one behind the other. -/
def setL (cur : Array Value) (o : Nat) : List Value → Array Value
  | [] => cur
  | v :: r => setL (cur.setIfInBounds o v) (o + 1) r
theorem setL_size : (vs : List Value) → (cur : Array Value) → (o : Nat) → (setL cur o vs).size = cur.size
  | [], _, _ => rfl
  | v :: r, cur, o => by rw [setL, setL_size r]; simp
theorem setL_list : (vs : List Value) → (cur : Array Value) → (o : Nat) → o + vs.length ≤ cur.size → (setL cur o vs).toList = cur.toList.take o ++ (vs ++ cur.toList.drop (o + vs.length))
  | [], cur, o, _ => by simp [setL]
  | v :: r, cur, o, h => by
    have hlt : o < cur.toList.length := by simp at h ⊢; omega
    rw [setL, setL_list r (cur.setIfInBounds o v) (o + 1) (by simp at h ⊢; omega)]
    have e : (cur.setIfInBounds o v).toList = cur.toList.set o v := by simp
    rw [e, List.take_set, List.drop_set_of_lt (by omega)]
    have e2 : (cur.toList.take (o + 1)).set o v = cur.toList.take o ++ [v] := by
      have hm : (cur.toList.take o).length = o := by rw [List.length_take]; omega
      rw [List.take_add_one, List.getElem?_eq_getElem hlt, List.set_append_right _ _ (by omega), hm, Nat.sub_self]
      rfl
    rw [e2, show o + 1 + r.length = o + (v :: r).length by simp; omega]
    simp
theorem heap_setCell (w : World) (b o : Nat) (v : Value) (cur : Array Value) (t : TypeId) (fr : Nat × Nat) (h : w.heap[b]? = some (.cells cur t fr)) : (w.setCell ⟨b, o, none⟩ v).heap[b]? = some (.cells (cur.setIfInBounds o v) t fr) := by
  unfold World.setCell
  simp [Array.getElem?_modify, h]
theorem heap_setCells (b : Nat) : (vs : List Value) → (o : Nat) → (w : World) → (cur : Array Value) → (t : TypeId) → (fr : Nat × Nat) → w.heap[b]? = some (.cells cur t fr) → (w.setCells b o vs).heap[b]? = some (.cells (setL cur o vs) t fr)
  | [], _, _, _, _, _, h => h
  | v :: r, o, w, cur, t, fr, h => by
    rw [World.setCells, setL]
    exact heap_setCells b r (o + 1) _ _ t fr (heap_setCell w b o v cur t fr h)
theorem heap_setCells_other (b k : Nat) (hk : k ≠ b) : (vs : List Value) → (o : Nat) → (w : World) → (w.setCells b o vs).heap[k]? = w.heap[k]?
  | [], _, _ => rfl
  | v :: r, o, w => by
    rw [World.setCells, heap_setCells_other b k hk r (o + 1) _]
    exact Below.heap_setCell w ⟨b, o, none⟩ v k hk
theorem size_setCells (b : Nat) : (vs : List Value) → (o : Nat) → (w : World) → (w.setCells b o vs).heap.size = w.heap.size ∧ (w.setCells b o vs).os = w.os ∧ (w.setCells b o vs).tape = w.tape ∧ (w.setCells b o vs).output = w.output
  | [], _, _ => ⟨rfl, rfl, rfl, rfl⟩
  | v :: r, o, w => by
    rw [World.setCells]
    obtain ⟨h1, h2, h3, h4⟩ := size_setCells b r (o + 1) (w.setCell ⟨b, o, none⟩ v)
    rw [h1, h2, h3, h4]
    exact ⟨by simp, rfl, rfl, rfl⟩
theorem flatE_app (a b : List (Int × Int)) : flatE (a ++ b) = flatE a ++ flatE b := by simp [flatE]
theorem flatE_one (x : Int × Int) (b : List (Int × Int)) : flatE (x :: b) = encE x ++ flatE b := by simp [flatE]
theorem flatE_take (rs : List (Int × Int)) (i : Nat) (h : i ≤ rs.length) : flatE (rs.take i) = (flatE rs).take (2 * i) ∧ flatE (rs.drop i) = (flatE rs).drop (2 * i) := by
  have e : flatE rs = flatE (rs.take i) ++ flatE (rs.drop i) := by rw [← flatE_app, List.take_append_drop]
  have hl : (flatE (rs.take i)).length = 2 * i := by rw [flatE_len]; simp; omega
  constructor
  · rw [e, ← hl, List.take_left']; rfl
  · rw [e, ← hl, List.drop_left']; rfl
theorem flatE_one' (x : Int × Int) : ∀ v ∈ encE x, v.oneCell' = true := by
  intro v hv
  simp [encE] at hv
  rcases hv with rfl | rfl <;> rfl
theorem flatE_cells (rs : List (Int × Int)) : ∀ v ∈ flatE rs, v.oneCell' = true := by
  intro v hv
  simp only [flatE, List.mem_flatMap] at hv
  obtain ⟨x, _, hx⟩ := hv
  exact flatE_one' x v hx
/-- A slice of ranges that is cut at its beginning. -/
theorem cutE_from (b off len cap lo : Nat) (h1 : lo ≤ len) (h2 : len ≤ cap) (W : World) : (Instr.slice 42 (.slice (some ⟨b, off, none⟩) len cap) (some (.int .i64 lo)) none none).run Try.prog W = .ok (.slice (some ⟨b, if cap = lo then off else off + lo * 2, none⟩) (len - lo) (cap - lo)) W := by
  have g0 : (0 : Int) ≤ (lo : Int) := by omega
  have g1 : (lo : Int) ≤ (len : Int) := by omega
  by_cases h : cap = lo
  · subst h
    go_simp
  · go_simp
theorem cutE_to (a : Option Addr) (len cap n : Nat) (h : n ≤ cap) (W : World) : (Instr.slice 42 (.slice a len cap) none (some (.int .i64 n)) none).run Try.prog W = .ok (.slice a n cap) W := by
  have h0 : (0 : Int) ≤ (n : Int) := by omega
  have h1 : (n : Int) ≤ (cap : Int) := by omega
  go_simp

theorem info_E : (Try.prog.info? 107).map (fun i => (i.zero, i.size, i.bytes)) = some (some (.agg #[.int .i64 0, .int .i64 0]), 2, 16) := by kernel_rfl
/-- What Insert leaves: the caller's row with one range more. -/
def InsPost (B : Nat) (rs : List (Int × Int)) (v : Value) (w : World) (e : Ending) (w' : World) : Prop :=
  ∃ v', e = .returned v' ∧ w'.ownsRow B 107 2 v' rs.length (flatE rs) ∧ w.grownBy w' v.ownBlock
theorem news_E {w : World} {vb : Nat} {x : Int × Int} {t : TypeId} (h : w.heap[vb]? = some (.cells (encE x).toArray t)) : ∀ j u, (encE x)[j]? = some u → w.cell? ⟨vb, 0 + j, none⟩ = some u := by
  intro j u hu
  rw [Nat.zero_add, cell_of_row w vb j _ _ _ h]
  simpa using hu

/-- What a row's cells are behind one record put in at i. -/
theorem shift_cells (L F E : List Value) (n i : Nat) (hi : i ≤ n) (hL : 2 * n + 2 ≤ L.length) (hF : L.take (n * 2) = F) (hE : E.length = 2)
    (L1 L2 : List Value) (h1 : L1 = L.take ((i + 1) * 2) ++ (F.drop (2 * i) ++ L.drop ((i + 1) * 2 + (F.drop (2 * i)).length))) (h2 : L2 = L1.take (i * 2) ++ (E ++ L1.drop (i * 2 + E.length))) :
    L2.take ((n + 1) * 2) = F.take (2 * i) ++ (E ++ F.drop (2 * i)) := by
  have hFl : F.length = n * 2 := by rw [← hF, List.length_take]; omega
  have ht : (L.take ((i + 1) * 2)).length = (i + 1) * 2 := by rw [List.length_take]; omega
  have e1 : L1.take (i * 2) = F.take (2 * i) := by
    rw [h1, List.take_append_of_le_length (by rw [ht]; omega), List.take_take, ← hF, List.take_take]
    congr 1
    omega
  have e2 : L1.drop (i * 2 + E.length) = F.drop (2 * i) ++ L.drop ((i + 1) * 2 + (F.drop (2 * i)).length) := by
    rw [h1, hE, show i * 2 + 2 = (L.take ((i + 1) * 2)).length by rw [ht]; omega, List.drop_left']
    rfl
  rw [h2, e1, e2, ← List.append_assoc, ← List.append_assoc]
  rw [List.take_append_of_le_length (by simp [hFl, hE]; omega), List.take_of_length_le (by simp [hFl, hE]; omega), List.append_assoc]
theorem grown_of_shift {w w' : World} {g : Nat} (hsz : w'.heap.size = w.heap.size) (h2 : w'.os = w.os) (h3 : w'.tape = w.tape) (h4 : w'.output = w.output) (hb : ∀ k, k ≠ g → w'.heap[k]? = w.heap[k]?) : w.grownBy w' (some g) :=
  ⟨h2, h3, h4, by omega, fun k _ hk => hb k (fun e => hk (by rw [e]))⟩

theorem grow_cells (F E Z : List Value) (n i : Nat) (hi : i ≤ n) (hF : F.length = 2 * n) (hE : E.length = 2) (L0 L1 L2 : List Value) (h0 : L0 = F.take (2 * i) ++ Z) (hZ : 2 * (n + 1 - i) ≤ Z.length)
    (h1 : L1 = L0.take (i * 2) ++ (E ++ L0.drop (i * 2 + E.length))) (h2 : L2 = L1.take ((i + 1) * 2) ++ (F.drop (2 * i) ++ L1.drop ((i + 1) * 2 + (F.drop (2 * i)).length))) :
    L2.take ((n + 1) * 2) = F.take (2 * i) ++ (E ++ F.drop (2 * i)) := by
  have hm : (F.take (2 * i)).length = 2 * i := by rw [List.length_take]; omega
  have e0 : L0.take (i * 2) = F.take (2 * i) := by
    rw [h0, show i * 2 = (F.take (2 * i)).length by rw [hm]; omega, List.take_left']; rfl
  have e1 : L1.take ((i + 1) * 2) = F.take (2 * i) ++ E := by
    rw [h1, e0, ← List.append_assoc, show (i + 1) * 2 = (F.take (2 * i) ++ E).length by rw [List.length_append, hm, hE]; omega, List.take_left']; rfl
  have hd : (F.drop (2 * i)).length = 2 * n - 2 * i := by rw [List.length_drop, hF]
  rw [h2, e1, ← List.append_assoc]
  rw [List.take_append_of_le_length (by simp [hm, hE, hd]; omega), List.take_of_length_le (by simp [hm, hE, hd]; omega), List.append_assoc]

end Go.Proofs.Ytcbnmahbdcjamaa
