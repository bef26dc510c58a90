/- Plain laws of rows of ranges: a copy of records of any number of cells, cells set one behind the other in a block, one range more among others. -/
import Derived.Test.YtgncpchgmjacdaaGreatDoorPropsD
import Derived.Laws.IdiomCopy
import Derived.Laws.NewBlocks
namespace Go.Proofs.YtgncpchgmjacdaaGreatDoor
open Go.RowKit
set_option linter.unusedVariables false

/-- 'copy' of records of k cells: all is read before anything is written. -/
theorem run_copyK {P : Program} (w : World) (dT sT ty elem : TypeId) (k b o dLen dCap : Nat) (a : Addr) (sLen sCap n : Nat) (cs : List Value)
    (hu : P.underlying dT = some (.slice elem)) (hs : (P.info? elem).map (·.size) = some k) (hn : n = Nat.min sLen dLen) (hl : cs.length = n * k)
    (hsrc : ∀ j v, cs[j]? = some v → w.cell? (a.add j) = some v) (hc : ∀ j, j < cs.length → (w.cell? ⟨b, o + j, none⟩).isSome = true) (hf : ∀ j, j < cs.length → w.frozen? ⟨b, o + j, none⟩ = false) (h1 : ∀ v ∈ cs, v.oneCell' = true) :
    (Builtin.copy_ #[dT, sT] ty #[.slice (some ⟨b, o, none⟩) dLen dCap, .slice (some a) sLen sCap]).run P w = .ok (goInt n) (w.setCells b o cs) := by
  have hld := run_loadCells_list (P := P) w a cs hsrc
  have hst := run_storeCells_cells (P := P) b o cs 0 w (by simpa using hc) (by simpa using hf) h1
  rw [hl] at hld
  cases hq : P.info? elem with
  | none => simp [hq] at hs
  | some i =>
    have hi : i.size = k := by simpa [hq] using hs
    simp [Builtin.copy_, run_underlying hu, Builtin.lenOf, Builtin.firstCells, sizeOf, typeInfo, hq, hi, ← hn, hld, hst]
/-- A block's cells, some of them set one behind the other. -/
def setL (cur : Array Value) (o : Nat) : List Value → Array Value
  | [] => cur
  | v :: r => setL (cur.setIfInBounds o v) (o + 1) r
theorem setL_size : (vs : List Value) → (cur : Array Value) → (o : Nat) → (setL cur o vs).size = cur.size
  | [], _, _ => rfl
  | v :: r, cur, o => by rw [setL, setL_size r]; simp
theorem setL_list : (vs : List Value) → (cur : Array Value) → (o : Nat) → o + vs.length ≤ cur.size → (setL cur o vs).toList = cur.toList.take o ++ (vs ++ cur.toList.drop (o + vs.length))
  | [], cur, o, _ => by simp [setL]
  | v :: r, cur, o, h => by
    have hlt : o < cur.toList.length := by simp at h ⊢; omega
    rw [setL, setL_list r (cur.setIfInBounds o v) (o + 1) (by simp at h ⊢; omega)]
    have e : (cur.setIfInBounds o v).toList = cur.toList.set o v := by simp
    rw [e, List.take_set, List.drop_set_of_lt (by omega)]
    have e2 : (cur.toList.take (o + 1)).set o v = cur.toList.take o ++ [v] := by
      have hm : (cur.toList.take o).length = o := by rw [List.length_take]; omega
      rw [List.take_add_one, List.getElem?_eq_getElem hlt, List.set_append_right _ _ (by omega), hm, Nat.sub_self]
      rfl
    rw [e2, show o + 1 + r.length = o + (v :: r).length by simp; omega]
    simp
theorem heap_setCell (w : World) (b o : Nat) (v : Value) (cur : Array Value) (t : TypeId) (fr : Nat × Nat) (h : w.heap[b]? = some (.cells cur t fr)) : (w.setCell ⟨b, o, none⟩ v).heap[b]? = some (.cells (cur.setIfInBounds o v) t fr) := by
  unfold World.setCell
  simp [Array.getElem?_modify, h]
theorem heap_setCells (b : Nat) : (vs : List Value) → (o : Nat) → (w : World) → (cur : Array Value) → (t : TypeId) → (fr : Nat × Nat) → w.heap[b]? = some (.cells cur t fr) → (w.setCells b o vs).heap[b]? = some (.cells (setL cur o vs) t fr)
  | [], _, _, _, _, _, h => h
  | v :: r, o, w, cur, t, fr, h => by
    rw [World.setCells, setL]
    exact heap_setCells b r (o + 1) _ _ t fr (heap_setCell w b o v cur t fr h)
theorem heap_setCells_other (b k : Nat) (hk : k ≠ b) : (vs : List Value) → (o : Nat) → (w : World) → (w.setCells b o vs).heap[k]? = w.heap[k]?
  | [], _, _ => rfl
  | v :: r, o, w => by
    rw [World.setCells, heap_setCells_other b k hk r (o + 1) _]
    exact Below.heap_setCell w ⟨b, o, none⟩ v k hk
theorem size_setCells (b : Nat) : (vs : List Value) → (o : Nat) → (w : World) → (w.setCells b o vs).heap.size = w.heap.size ∧ (w.setCells b o vs).os = w.os ∧ (w.setCells b o vs).tape = w.tape ∧ (w.setCells b o vs).output = w.output
  | [], _, _ => ⟨rfl, rfl, rfl, rfl⟩
  | v :: r, o, w => by
    rw [World.setCells]
    obtain ⟨h1, h2, h3, h4⟩ := size_setCells b r (o + 1) (w.setCell ⟨b, o, none⟩ v)
    rw [h1, h2, h3, h4]
    exact ⟨by simp, rfl, rfl, rfl⟩
theorem flatR_app (a b : List Rg) : flatR (a ++ b) = flatR a ++ flatR b := by simp [flatR]
theorem flatR_one (x : Rg) (b : List Rg) : flatR (x :: b) = encR x ++ flatR b := by simp [flatR]
theorem flatR_take (rs : List Rg) (i : Nat) (h : i ≤ rs.length) : flatR (rs.take i) = (flatR rs).take (3 * i) ∧ flatR (rs.drop i) = (flatR rs).drop (3 * i) := by
  have e : flatR rs = flatR (rs.take i) ++ flatR (rs.drop i) := by rw [← flatR_app, List.take_append_drop]
  have hl : (flatR (rs.take i)).length = 3 * i := by rw [flatR_len]; simp; omega
  constructor
  · rw [e, ← hl, List.take_left']; rfl
  · rw [e, ← hl, List.drop_left']; rfl
theorem flatR_one' (x : Rg) : ∀ v ∈ encR x, v.oneCell' = true := by
  intro v hv
  simp [encR] at hv
  rcases hv with rfl | rfl | rfl <;> rfl
theorem flatR_cells (rs : List Rg) : ∀ v ∈ flatR rs, v.oneCell' = true := by
  intro v hv
  simp only [flatR, List.mem_flatMap] at hv
  obtain ⟨x, _, hx⟩ := hv
  exact flatR_one' x v hx
/-- A slice of ranges that is cut at its beginning. -/
theorem cutR_from (b off len cap lo : Nat) (h1 : lo ≤ len) (h2 : len ≤ cap) (W : World) : (Instr.slice 23 (.slice (some ⟨b, off, none⟩) len cap) (some (.int .i64 lo)) none none).run Tryz.prog W = .ok (.slice (some ⟨b, if cap = lo then off else off + lo * 3, none⟩) (len - lo) (cap - lo)) W := by
  have g0 : (0 : Int) ≤ (lo : Int) := by omega
  have g1 : (lo : Int) ≤ (len : Int) := by omega
  by_cases h : cap = lo
  · subst h
    go_simp
  · go_simp
theorem cutR_to (a : Option Addr) (len cap n : Nat) (h : n ≤ cap) (W : World) : (Instr.slice 23 (.slice a len cap) none (some (.int .i64 n)) none).run Tryz.prog W = .ok (.slice a n cap) W := by
  have h0 : (0 : Int) ≤ (n : Int) := by omega
  have h1 : (n : Int) ≤ (cap : Int) := by omega
  go_simp
end Go.Proofs.YtgncpchgmjacdaaGreatDoor
