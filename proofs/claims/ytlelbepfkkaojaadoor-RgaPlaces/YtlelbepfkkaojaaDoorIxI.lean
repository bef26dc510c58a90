/- Plain laws of rows of blocks (three cells each); the walk of the library's Insert of one block into a row of the caller's own. Written by mkins.py. -/
import Derived.Test.YtlelbepfkkaojaaDoorIxC
import Derived.Laws.IdiomCopy
import Derived.Laws.NewBlocks
import Derived.Shelf.Spec.SlicesInsertGrow
import Derived.Deep.RegionLaw
namespace Go.Proofs.YtlelbepfkkaojaaDoor
open Go.RowKit
set_option linter.unusedVariables false

/-- 'copy' of records of k cells: all is read before anything is written. -/
theorem run_copyK {P : Program} (w : World) (dT sT ty elem : TypeId) (k b o dLen dCap : Nat) (a : Addr) (sLen sCap n : Nat) (cs : List Value)
    (hu : P.underlying dT = some (.slice elem)) (hs : (P.info? elem).map (·.size) = some k) (hn : n = Nat.min sLen dLen) (hl : cs.length = n * k)
    (hsrc : ∀ j v, cs[j]? = some v → w.cell? (a.add j) = some v) (hc : ∀ j, j < cs.length → (w.cell? ⟨b, o + j, none⟩).isSome = true) (hf : ∀ j, j < cs.length → w.frozen? ⟨b, o + j, none⟩ = false) (h1 : ∀ v ∈ cs, v.oneCell' = true) :
    (Builtin.copy_ #[dT, sT] ty #[.slice (some ⟨b, o, none⟩) dLen dCap, .slice (some a) sLen sCap]).run P w = .ok (goInt n) (w.setCells b o cs) := by
  have hld := run_loadCells_list (P := P) w a cs hsrc
  have hst := run_storeCells_cells (P := P) b o cs 0 w (by simpa using hc) (by simpa using hf) h1
  rw [hl] at hld
  cases hq : P.info? elem with
  | none => simp [hq] at hs
  | some i =>
    have hi : i.size = k := by simpa [hq] using hs
    simp [Builtin.copy_, run_underlying hu, Builtin.lenOf, Builtin.firstCells, sizeOf, typeInfo, hq, hi, ← hn, hld, hst]
/-- A block's cells, some of them set one behind the other. -/
def setL (cur : Array Value) (o : Nat) : List Value → Array Value
  | [] => cur
  | v :: r => setL (cur.setIfInBounds o v) (o + 1) r
theorem setL_size : (vs : List Value) → (cur : Array Value) → (o : Nat) → (setL cur o vs).size = cur.size
  | [], _, _ => rfl
  | v :: r, cur, o => by rw [setL, setL_size r]; simp
theorem setL_list : (vs : List Value) → (cur : Array Value) → (o : Nat) → o + vs.length ≤ cur.size → (setL cur o vs).toList = cur.toList.take o ++ (vs ++ cur.toList.drop (o + vs.length))
  | [], cur, o, _ => by simp [setL]
  | v :: r, cur, o, h => by
    have hlt : o < cur.toList.length := by simp at h ⊢; omega
    rw [setL, setL_list r (cur.setIfInBounds o v) (o + 1) (by simp at h ⊢; omega)]
    have e : (cur.setIfInBounds o v).toList = cur.toList.set o v := by simp
    rw [e, List.take_set, List.drop_set_of_lt (by omega)]
    have e2 : (cur.toList.take (o + 1)).set o v = cur.toList.take o ++ [v] := by
      have hm : (cur.toList.take o).length = o := by rw [List.length_take]; omega
      rw [List.take_add_one, List.getElem?_eq_getElem hlt, List.set_append_right _ _ (by omega), hm, Nat.sub_self]
      rfl
    rw [e2, show o + 1 + r.length = o + (v :: r).length by simp; omega]
    simp
theorem heap_setCell (w : World) (b o : Nat) (v : Value) (cur : Array Value) (t : TypeId) (fr : Nat × Nat) (h : w.heap[b]? = some (.cells cur t fr)) : (w.setCell ⟨b, o, none⟩ v).heap[b]? = some (.cells (cur.setIfInBounds o v) t fr) := by
  unfold World.setCell
  simp [Array.getElem?_modify, h]
theorem heap_setCells (b : Nat) : (vs : List Value) → (o : Nat) → (w : World) → (cur : Array Value) → (t : TypeId) → (fr : Nat × Nat) → w.heap[b]? = some (.cells cur t fr) → (w.setCells b o vs).heap[b]? = some (.cells (setL cur o vs) t fr)
  | [], _, _, _, _, _, h => h
  | v :: r, o, w, cur, t, fr, h => by
    rw [World.setCells, setL]
    exact heap_setCells b r (o + 1) _ _ t fr (heap_setCell w b o v cur t fr h)
theorem heap_setCells_other (b k : Nat) (hk : k ≠ b) : (vs : List Value) → (o : Nat) → (w : World) → (w.setCells b o vs).heap[k]? = w.heap[k]?
  | [], _, _ => rfl
  | v :: r, o, w => by
    rw [World.setCells, heap_setCells_other b k hk r (o + 1) _]
    exact Below.heap_setCell w ⟨b, o, none⟩ v k hk
theorem size_setCells (b : Nat) : (vs : List Value) → (o : Nat) → (w : World) → (w.setCells b o vs).heap.size = w.heap.size ∧ (w.setCells b o vs).os = w.os ∧ (w.setCells b o vs).tape = w.tape ∧ (w.setCells b o vs).output = w.output
  | [], _, _ => ⟨rfl, rfl, rfl, rfl⟩
  | v :: r, o, w => by
    rw [World.setCells]
    obtain ⟨h1, h2, h3, h4⟩ := size_setCells b r (o + 1) (w.setCell ⟨b, o, none⟩ v)
    rw [h1, h2, h3, h4]
    exact ⟨by simp, rfl, rfl, rfl⟩
theorem flatB_len3 (rs : List (List Bool)) : (flatB rs).length = 3 * rs.length := by rw [flatB_len]; omega
/-- Where a row lies: where it lay, or behind all that was. -/
def AtX (w : World) (row : Option Nat) (v' : Value) : Prop := ∀ k, v'.ownBlock = some k → row = some k ∨ w.heap.size ≤ k
theorem flatB_take (rs : List (List Bool)) (i : Nat) (h : i ≤ rs.length) : flatB (rs.take i) = (flatB rs).take (3 * i) ∧ flatB (rs.drop i) = (flatB rs).drop (3 * i) := by
  have e : flatB rs = flatB (rs.take i) ++ flatB (rs.drop i) := by rw [← flatB_app, List.take_append_drop]
  have hl : (flatB (rs.take i)).length = 3 * i := by rw [flatB_len3]; simp; omega
  constructor
  · rw [e, ← hl, List.take_left']; rfl
  · rw [e, ← hl, List.drop_left']; rfl
theorem flatB_one' (x : List Bool) : ∀ v ∈ encB x, v.oneCell' = true := by
  intro v hv
  simp [encB] at hv
  rcases hv with rfl | rfl | rfl <;> rfl
theorem flatB_cells (rs : List (List Bool)) : ∀ v ∈ flatB rs, v.oneCell' = true := by
  intro v hv
  simp only [flatB, List.mem_flatMap] at hv
  obtain ⟨x, _, hx⟩ := hv
  exact flatB_one' x v hx
/-- A slice of ranges that is cut at its beginning. -/
theorem cutB_from (b off len cap lo : Nat) (h1 : lo ≤ len) (h2 : len ≤ cap) (W : World) : (Instr.slice 60 (.slice (some ⟨b, off, none⟩) len cap) (some (.int .i64 lo)) none none).run Tryd.prog W = .ok (.slice (some ⟨b, if cap = lo then off else off + lo * 3, none⟩) (len - lo) (cap - lo)) W := by
  have g0 : (0 : Int) ≤ (lo : Int) := by omega
  have g1 : (lo : Int) ≤ (len : Int) := by omega
  by_cases h : cap = lo
  · subst h
    go_simp
  · go_simp
theorem cutB_to (a : Option Addr) (len cap n : Nat) (h : n ≤ cap) (W : World) : (Instr.slice 60 (.slice a len cap) none (some (.int .i64 n)) none).run Tryd.prog W = .ok (.slice a n cap) W := by
  have h0 : (0 : Int) ≤ (n : Int) := by omega
  have h1 : (n : Int) ≤ (cap : Int) := by omega
  go_simp

theorem info_B : (Tryd.prog.info? 77).map (fun i => (i.zero, i.size, i.bytes)) = some (some (.agg #[.int .i64 0, .int .i64 0, .int .u64 0]), 3, 24) := by kernel_rfl
/-- What Insert leaves: the caller's row with one range more. -/
def InsPost (B : Nat) (rs : List (List Bool)) (v : Value) (w : World) (e : Ending) (w' : World) : Prop :=
  ∃ v', e = .returned v' ∧ w'.ownsRow B 77 3 v' rs.length (flatB rs) ∧ w.grownBy w' v.ownBlock ∧ AtX w v.ownBlock v'
theorem news_B {w : World} {vb : Nat} {x : List Bool} {t : TypeId} (h : w.heap[vb]? = some (.cells (encB x).toArray t)) : ∀ j u, (encB x)[j]? = some u → w.cell? ⟨vb, 0 + j, none⟩ = some u := by
  intro j u hu
  rw [Nat.zero_add, cell_of_row w vb j _ _ _ h]
  simpa using hu

set_option maxHeartbeats 4000000 in
theorem insert_end (rs : List (List Bool)) (x : List Bool) (B : Nat) (v : Value) (vb : Nat) (w : World) (hown : w.ownsRow B 77 3 v rs.length (flatB rs)) (hB : B ≤ w.heap.size)
    (hv : w.heap[vb]? = some (.cells (encB x).toArray 77)) (hl : rs.length ≤ 100000000) :
    Calls Tryd.prog 57 #[v, .int .i64 rs.length, .slice (some ⟨vb, 0, none⟩) 1 1] w (InsPost B (rs ++ [x]) v w) := by
  obtain ⟨i0, hi, hz0, hz1, hz2⟩ := info_parts info_B
  have HI : Hid (Tryd.prog.info? 77 = some i0 ∧ i0.zero = some (.agg #[.int .i64 0, .int .i64 0, .int .u64 0]) ∧ i0.size = 3 ∧ i0.bytes = 24) := ⟨hi, hz0, hz1, hz2⟩
  clear hi hz0 hz1 hz2
  have HO : Hid (w.ownsRow B 77 3 v rs.length (flatB rs)) := hown
  have HN : Hid (∀ j u, (encB x)[j]? = some u → w.cell? ((⟨vb, 0, none⟩ : Addr).add j) = some u) := by
    intro j u hu
    rw [add_lit]; exact news_B hv j u hu
  have HFIN : Hid (∀ v' w', w'.ownsRow B 77 3 v' (rs.length + 1) (flatB rs ++ encB x) → w.grownBy w' v.ownBlock → AtX w v.ownBlock v' → InsPost B (rs ++ [x]) v w (.returned v') w') := by
    intro v' w' h1 h2 h3
    refine ⟨v', rfl, ?_, h2, h3⟩
    rw [flatB_app, List.length_append, List.length_singleton, flatB_one]
    have : flatB ([] : List (List Bool)) = [] := rfl
    rw [this, List.append_nil]
    exact h1
  obtain ⟨n, hn⟩ : ∃ n, n = rs.length := ⟨_, rfl⟩
  have HLN : Hid (n = rs.length) := hn
  rw [← hn] at HO HFIN hl hown ⊢
  rcases hown.2 with ⟨rfl, h0⟩ | ⟨g, cap, cur, rfl, hbg, hg, hnc, hm, hs, ht⟩
  · have hn0 : n = 0 := by omega
    clear hn hv hown
    subst hn0
    go_enter Tryd.func57, Tryd.ntmps57
    go_wp2_with (at_builtin; refine wpList_append_lies _ rfl _ _ 60 rfl B 77 i0 _ 3 24 Tryd.underlying60 HI.out.1 HI.out.2.1 HI.out.2.2.1 HI.out.2.2.2 rfl (by decide) _ 0 (flatB rs) rfl HO.out ⟨vb, 0, none⟩ 1 1 (encB x) rfl rfl HN.out (flatB_one' x) (by decide) (by unfold maxLen; omega) (by omega) hB _ rfl (fun g' cap' w' h1 h2 h3 _ => ?_); have HF := HFIN.out _ w' h1 h2 (fun k hk => by cases hk; rcases h3 with h3 | h3; exact .inl h3; exact .inr (Nat.le_of_eq h3.symm)); have HFF : Hid _ := HF; clear HF h1 h2 h3)
    go_ret
    exact HFF.out
  · have hm' : cap ≤ 9223372036854775807 := by simpa [maxLen] using hm
    have hcut := cutB_from g 0 n cap n (Nat.le_refl _) hnc
    clear hn hv hown hg hs ht hm hbg
    go_enter Tryd.func57, Tryd.ntmps57
    go_wp2_with (at_builtin; refine wpList_append_lies _ rfl _ _ 60 rfl B 77 i0 _ 3 24 Tryd.underlying60 HI.out.1 HI.out.2.1 HI.out.2.2.1 HI.out.2.2.2 rfl (by decide) _ n (flatB rs) rfl HO.out ⟨vb, 0, none⟩ 1 1 (encB x) rfl rfl HN.out (flatB_one' x) (by decide) (by unfold maxLen; omega) (by omega) hB _ rfl (fun g' cap' w' h1 h2 h3 _ => ?_); have HF := HFIN.out _ w' h1 h2 (fun k hk => by cases hk; rcases h3 with h3 | h3; exact .inl h3; exact .inr (Nat.le_of_eq h3.symm)); have HFF : Hid _ := HF; clear HF h1 h2 h3)
    all_goals
      go_ret
      exact HFF.out

/-- What a row's cells are behind one record put in at i. -/
theorem shift_cells (L F E : List Value) (n i : Nat) (hi : i ≤ n) (hL : 3 * n + 3 ≤ L.length) (hF : L.take (n * 3) = F) (hE : E.length = 3)
    (L1 L2 : List Value) (h1 : L1 = L.take ((i + 1) * 3) ++ (F.drop (3 * i) ++ L.drop ((i + 1) * 3 + (F.drop (3 * i)).length))) (h2 : L2 = L1.take (i * 3) ++ (E ++ L1.drop (i * 3 + E.length))) :
    L2.take ((n + 1) * 3) = F.take (3 * i) ++ (E ++ F.drop (3 * i)) := by
  have hFl : F.length = n * 3 := by rw [← hF, List.length_take]; omega
  have ht : (L.take ((i + 1) * 3)).length = (i + 1) * 3 := by rw [List.length_take]; omega
  have e1 : L1.take (i * 3) = F.take (3 * i) := by
    rw [h1, List.take_append_of_le_length (by rw [ht]; omega), List.take_take, ← hF, List.take_take]
    congr 1
    omega
  have e2 : L1.drop (i * 3 + E.length) = F.drop (3 * i) ++ L.drop ((i + 1) * 3 + (F.drop (3 * i)).length) := by
    rw [h1, hE, show i * 3 + 3 = (L.take ((i + 1) * 3)).length by rw [ht]; omega, List.drop_left']
    rfl
  rw [h2, e1, e2, ← List.append_assoc, ← List.append_assoc]
  rw [List.take_append_of_le_length (by simp [hFl, hE]; omega), List.take_of_length_le (by simp [hFl, hE]; omega), List.append_assoc]
theorem grown_of_shift {w w' : World} {g : Nat} (hsz : w'.heap.size = w.heap.size) (h2 : w'.os = w.os) (h3 : w'.tape = w.tape) (h4 : w'.output = w.output) (hb : ∀ k, k ≠ g → w'.heap[k]? = w.heap[k]?) : w.grownBy w' (some g) :=
  ⟨h2, h3, h4, by omega, fun k _ hk => hb k (fun e => hk (by rw [e]))⟩

set_option maxHeartbeats 4000000 in
theorem insert_shift (rs : List (List Bool)) (x : List Bool) (B g cap : Nat) (cur : Array Value) (vb i : Nat) (w : World) (hbg : B ≤ g) (hg : w.heap[g]? = some (.cells cur 77 (0, 0))) (hm : cap ≤ maxLen) (hs : cur.size = cap * 3)
    (ht : cur.toList.take (rs.length * 3) = flatB rs) (hi : i < rs.length) (hroom : rs.length + 1 ≤ cap) (hvg : vb ≠ g)
    (hv : w.heap[vb]? = some (.cells (encB x).toArray 77)) :
    Calls Tryd.prog 57 #[.slice (some ⟨g, 0, none⟩) rs.length cap, .int .i64 i, .slice (some ⟨vb, 0, none⟩) 1 1] w (InsPost B (rs.take i ++ x :: rs.drop i) (.slice (some ⟨g, 0, none⟩) rs.length cap) w) := by
  obtain ⟨n, hn⟩ : ∃ n, n = rs.length := ⟨_, rfl⟩
  rw [← hn] at ht hi hroom ⊢
  obtain ⟨F, hF⟩ : ∃ F, F = flatB rs := ⟨_, rfl⟩
  rw [← hF] at ht
  have hFl : F.length = 3 * n := by rw [hF, flatB_len3, hn]
  have hF1 : ∀ v ∈ F, v.oneCell' = true := by rw [hF]; exact flatB_cells rs
  have hm' : cap ≤ 9223372036854775807 := by simpa [maxLen] using hm
  have hcell : ∀ j v, F[j]? = some v → w.cell? ⟨g, j, none⟩ = some v := by
    intro j v hj
    rw [cell_of_row w g j _ _ _ hg]
    rw [← ht, List.getElem?_take] at hj
    split at hj
    · simpa using hj
    · cases hj
  have hsome : ∀ j, j < cap * 3 → (w.cell? ⟨g, j, none⟩).isSome = true := by
    intro j hj
    rw [cell_of_row w g j _ _ _ hg, Array.getElem?_eq_getElem (by omega)]; rfl
  have hfz : ∀ j, w.frozen? ⟨g, j, none⟩ = false := fun j => Lib.frozen_of_heap hg j
  have hsz : (Tryd.prog.info? 77).map (·.size) = some 3 := by kernel_rfl
  have hshg : w.shape? g = some (77, cap * 3) := by simp [World.shape?, hg, hs]
  have hshv : w.shape? vb = some (77, 3) := by simp [World.shape?, hv, encB]
  have hov : ∀ lb cb, (callFunc 59 #[.slice (some ⟨vb, 0, none⟩) 1 1, .slice (some ⟨g, (i + 1) * 3, none⟩) lb cb]).run Tryd.prog w = .ok (.value (.bool false)) w := fun lb cb => by
    rw [run_callFunc_extern Tryd.func59 (by kernel_rfl) (by kernel_rfl) (by kernel_rfl) (e := Extern.SlicesOverlaps.overlaps #[60, 60] #[4]) (by kernel_rfl),
      Lib.run_overlaps_apart w 60 4 77 Tryd.underlying60 3 Tryd.sizeOf77 ⟨vb, 0, none⟩ ⟨g, (i + 1) * 3, none⟩ 1 1 lb cb hvg 77 77 3 (cap * 3) hshv hshg (by omega) (Lib.frozen_of_heap hv 0) (Lib.frozen_of_heap hv 3)]
    rfl
  obtain ⟨D, hD⟩ : ∃ D, D = F.drop (3 * i) := ⟨_, rfl⟩
  have hDl : D.length = (n - i) * 3 := by rw [hD, List.length_drop, hFl]; omega
  obtain ⟨E, hE⟩ : ∃ E, E = encB x := ⟨_, rfl⟩
  have hEl : E.length = 3 := by rw [hE]; rfl
  have hcp1 : ∀ ty dc sc, (Builtin.copy_ #[60, 60] ty #[.slice (some ⟨g, (i + 1) * 3, none⟩) (n - i) dc, .slice (some ⟨g, i * 3, none⟩) (n + 1 - i) sc]).run Tryd.prog w.drew = .ok (goInt ((n - i : Nat) : Int)) (w.drew.setCells g ((i + 1) * 3) D) := fun ty dc sc =>
    run_copyK w.drew _ _ ty 77 3 g ((i + 1) * 3) (n - i) dc ⟨g, i * 3, none⟩ (n + 1 - i) sc (n - i) D Tryd.underlying60 hsz (by simp only [Nat.min_def]; split <;> omega) hDl
      (fun j v hj => by rw [add_lit]; exact hcell (i * 3 + j) v (by rw [hD, List.getElem?_drop] at hj; rw [show i * 3 + j = 3 * i + j by omega]; exact hj))
      (fun j hj => hsome _ (by omega)) (fun j hj => hfz _) (fun v hv => hF1 v (by rw [hD] at hv; exact List.mem_of_mem_drop hv))
  obtain ⟨W1, hW1⟩ : ∃ W1, W1 = w.drew.setCells g ((i + 1) * 3) D := ⟨_, rfl⟩
  rw [← hW1] at hcp1
  have hg1 : W1.heap[g]? = some (.cells (setL cur ((i + 1) * 3) D) 77 (0, 0)) := by rw [hW1]; exact heap_setCells g D _ w.drew cur _ _ hg
  have hv1 : W1.heap[vb]? = some (.cells (encB x).toArray 77) := by rw [hW1, heap_setCells_other g vb hvg]; exact hv
  have hcp2 : ∀ ty dc, (Builtin.copy_ #[60, 60] ty #[.slice (some ⟨g, i * 3, none⟩) (n + 1 - i) dc, .slice (some ⟨vb, 0, none⟩) 1 1]).run Tryd.prog W1 = .ok (goInt 1) (W1.setCells g (i * 3) E) := fun ty dc =>
    run_copyK W1 _ _ ty 77 3 g (i * 3) (n + 1 - i) dc ⟨vb, 0, none⟩ 1 1 1 E Tryd.underlying60 hsz (by simp only [Nat.min_def]; split <;> omega) (by rw [hEl])
      (fun j v hj => by rw [add_lit]; exact news_B hv1 j v (by rw [← hE]; exact hj))
      (fun j hj => by rw [cell_of_row W1 g _ _ _ _ hg1, Array.getElem?_eq_getElem (by rw [setL_size]; omega)]; rfl)
      (fun j hj => Lib.frozen_of_heap hg1 _) (fun v hv => flatB_one' x v (by rw [← hE]; exact hv))
  have HFIN : Hid (InsPost B (rs.take i ++ x :: rs.drop i) (.slice (some ⟨g, 0, none⟩) n cap) w (.returned (.slice (some ⟨g, 0, none⟩) (n + 1) cap)) (W1.setCells g (i * 3) E)) := by
    have hg2 := heap_setCells g E (i * 3) W1 _ _ _ hg1
    obtain ⟨s1, s2, s3, s4⟩ := size_setCells g E (i * 3) W1
    obtain ⟨r1, r2, r3, r4⟩ := size_setCells g D ((i + 1) * 3) w.drew
    rw [← hW1] at r1 r2 r3 r4
    have hlen : (rs.take i ++ x :: rs.drop i).length = n + 1 := by simp; omega
    have hfl : flatB (rs.take i ++ x :: rs.drop i) = F.take (3 * i) ++ (E ++ F.drop (3 * i)) := by
      rw [flatB_app, flatB_one, (flatB_take rs i (by omega)).1, (flatB_take rs i (by omega)).2, ← hF, hE]
    refine ⟨_, rfl, ⟨?_, .inr ⟨g, cap, _, by rw [hlen], hbg, hg2, by rw [hlen]; exact hroom, hm, by rw [setL_size, setL_size]; exact hs, ?_⟩⟩, ?_, fun k hk => .inl hk⟩
    · rw [flatB_len3]; omega
    · rw [hlen, hfl]
      refine shift_cells cur.toList F E n i (by omega) (by simp [hs]; omega) ht hEl (setL cur ((i + 1) * 3) D).toList _ ?_ ?_
      · rw [setL_list D cur _ (by rw [hDl, hs]; omega), ← hD]
      · rw [setL_list E _ _ (by rw [setL_size, hEl, hs]; omega)]
    · refine grown_of_shift (by rw [s1, r1]; rfl) (by rw [s2, r2]; rfl) (by rw [s3, r3]; rfl) (by rw [s4, r4]; rfl) (fun k hk => ?_)
      rw [heap_setCells_other g k hk, hW1, heap_setCells_other g k hk]
      rfl
  have c1 : ∀ W, (Instr.slice 60 (.slice (some ⟨g, 0, none⟩) n cap) (some (.int .i64 i)) none none).run Tryd.prog W = .ok (.slice (some ⟨g, i * 3, none⟩) (n - i) (cap - i)) W := fun W => by
    have := cutB_from g 0 n cap i (by omega) (by omega) W
    rw [if_neg (by omega), Nat.zero_add] at this
    exact this
  have c2 : ∀ W, (Instr.slice 60 (.slice (some ⟨g, 0, none⟩) n cap) none (some (.int .i64 ((n : Int) + 1))) none).run Tryd.prog W = .ok (.slice (some ⟨g, 0, none⟩) (n + 1) cap) W := fun W => by
    have := cutB_to (some ⟨g, 0, none⟩) n cap (n + 1) (by omega) W
    rw [Int.natCast_add] at this
    exact this
  have c3 : ∀ W, (Instr.slice 60 (.slice (some ⟨g, 0, none⟩) (n + 1) cap) (some (.int .i64 ((i : Int) + 1))) none none).run Tryd.prog W = .ok (.slice (some ⟨g, (i + 1) * 3, none⟩) (n - i) (cap - (i + 1))) W := fun W => by
    have := cutB_from g 0 (n + 1) cap (i + 1) (by omega) (by omega) W
    rw [if_neg (by omega), Nat.zero_add, Int.natCast_add, show n + 1 - (i + 1) = n - i by omega] at this
    exact this
  have c4 : ∀ W, (Instr.slice 60 (.slice (some ⟨g, 0, none⟩) (n + 1) cap) (some (.int .i64 i)) none none).run Tryd.prog W = .ok (.slice (some ⟨g, i * 3, none⟩) (n + 1 - i) (cap - i)) W := fun W => by
    have := cutB_from g 0 (n + 1) cap i (by omega) (by omega) W
    rw [if_neg (by omega), Nat.zero_add] at this
    exact this
  have hz2 : ¬ ((i : Int) = (n : Int)) := by omega
  have hz3 : ¬ ((cap : Int) < (n : Int) + 1) := by omega
  have hnn : n ≤ 9223372036854775806 := by omega
  have HW1 : Hid (W1 = w.drew.setCells g ((i + 1) * 3) D) := hW1
  have hw1 : IntKind.i64.wrap ((i : Int) + 1) = (i : Int) + 1 := by rw [IntKind.wrap_i64]; omega
  have hb1 : (0 : Int) ≤ (i : Int) + 1 := by omega
  have hb5 : (i : Int) + 1 ≤ (n : Int) + 1 := by omega
  have htn : ((i : Int) + 1).toNat = i + 1 := by omega
  have hb2 : ¬ (cap = i + 1) := by omega
  have hb3 : (i : Int) ≤ (n : Int) + 1 := by omega
  have hb4 : ¬ (cap = i) := by omega
  clear hn hF hFl hF1 hcell hsome hfz hsz hshg hshv hD hDl hE hEl hg1 hv1 hg hs ht hv hm hW1
  go_enter Tryd.func57, Tryd.ntmps57
  go_wp2_with (simp only [hov])
  go_region_law (refine step_copy_runI rfl _ _ 60 60 rfl _ _ (by simp [Act.eval, Act.put]) (by simp [Act.eval, Act.put]) (hcp1 _ _ _) ?_)
  go_wp2_with (at_builtin; refine wpList_copy_runI _ rfl _ _ 60 60 rfl _ _ rfl rfl (hcp2 _ _) ?_)
  go_ret
  exact HFIN.out

theorem grow_cells (F E Z : List Value) (n i : Nat) (hi : i ≤ n) (hF : F.length = 3 * n) (hE : E.length = 3) (L0 L1 L2 : List Value) (h0 : L0 = F.take (3 * i) ++ Z) (hZ : 3 * (n + 1 - i) ≤ Z.length)
    (h1 : L1 = L0.take (i * 3) ++ (E ++ L0.drop (i * 3 + E.length))) (h2 : L2 = L1.take ((i + 1) * 3) ++ (F.drop (3 * i) ++ L1.drop ((i + 1) * 3 + (F.drop (3 * i)).length))) :
    L2.take ((n + 1) * 3) = F.take (3 * i) ++ (E ++ F.drop (3 * i)) := by
  have hm : (F.take (3 * i)).length = 3 * i := by rw [List.length_take]; omega
  have e0 : L0.take (i * 3) = F.take (3 * i) := by
    rw [h0, show i * 3 = (F.take (3 * i)).length by rw [hm]; omega, List.take_left']; rfl
  have e1 : L1.take ((i + 1) * 3) = F.take (3 * i) ++ E := by
    rw [h1, e0, ← List.append_assoc, show (i + 1) * 3 = (F.take (3 * i) ++ E).length by rw [List.length_append, hm, hE]; omega, List.take_left']; rfl
  have hd : (F.drop (3 * i)).length = 3 * n - 3 * i := by rw [List.length_drop, hF]
  rw [h2, e1, ← List.append_assoc]
  rw [List.take_append_of_le_length (by simp [hm, hE, hd]; omega), List.take_of_length_le (by simp [hm, hE, hd]; omega), List.append_assoc]

set_option maxHeartbeats 4000000 in
theorem insert_grow (rs : List (List Bool)) (x : List Bool) (B g cap : Nat) (cur : Array Value) (vb i : Nat) (w : World) (hB : B ≤ w.heap.size) (hg : w.heap[g]? = some (.cells cur 77 (0, 0))) (hnc : rs.length ≤ cap)
    (ht : cur.toList.take (rs.length * 3) = flatB rs) (hi : i < rs.length) (hroom : cap < rs.length + 1) (hl : rs.length ≤ 100000000)
    (hv : w.heap[vb]? = some (.cells (encB x).toArray 77)) :
    Calls Tryd.prog 57 #[.slice (some ⟨g, 0, none⟩) rs.length cap, .int .i64 i, .slice (some ⟨vb, 0, none⟩) 1 1] w (InsPost B (rs.take i ++ x :: rs.drop i) (.slice (some ⟨g, 0, none⟩) rs.length cap) w) := by
  obtain ⟨n, hn⟩ : ∃ n, n = rs.length := ⟨_, rfl⟩
  rw [← hn] at ht hi hroom hnc hl ⊢
  obtain rfl : cap = n := by omega
  obtain ⟨F, hF⟩ : ∃ F, F = flatB rs := ⟨_, rfl⟩
  rw [← hF] at ht
  have hFl : F.length = 3 * cap := by rw [hF, flatB_len3, hn]
  have hF1 : ∀ v ∈ F, v.oneCell' = true := by rw [hF]; exact flatB_cells rs
  have hcell : ∀ j v, F[j]? = some v → w.cell? ⟨g, j, none⟩ = some v := by
    intro j v hj
    rw [cell_of_row w g j _ _ _ hg]
    rw [← ht, List.getElem?_take] at hj
    split at hj
    · simpa using hj
    · cases hj
  obtain ⟨i0, hi0, hz0, hzs, hzb⟩ := info_parts info_B
  have hsz : (Tryd.prog.info? 77).map (·.size) = some 3 := by kernel_rfl
  obtain ⟨k, hk⟩ : ∃ k, k = cap + 1 - i := ⟨_, rfl⟩
  have hik : i + k = cap + 1 := by omega
  have hkk : (cap : Int) + 1 - (i : Int) = (k : Int) := by omega
  have hgw : g < w.heap.size := (Array.getElem?_eq_some_iff.1 hg).1
  have hvw : vb < w.heap.size := (Array.getElem?_eq_some_iff.1 hv).1
  have hold : (Builtin.firstCells i0.size i (.slice (some ⟨g, 0, none⟩) i cap)).run Tryd.prog w.drew = .ok (F.take (3 * i)).toArray w.drew := by
    rw [hzs]
    exact run_firstCells_some w.drew 3 i ⟨g, 0, none⟩ i cap (F.take (3 * i)) (by rw [List.length_take]; omega) (fun j v hj => by
      rw [add_lit, Nat.zero_add]
      rw [List.getElem?_take] at hj
      split at hj
      · exact hcell j v hj
      · cases hj)
  obtain ⟨Z3, hZ3⟩ : ∃ Z3 : Value, Z3 = .agg #[.int .i64 0, .int .i64 0, .int .u64 0] := ⟨_, rfl⟩
  rw [← hZ3] at hz0
  obtain ⟨G, hG⟩ : ∃ G, G = grownCap w (cap + 1) cap 77 := ⟨_, rfl⟩
  obtain ⟨ROW, hROW⟩ : ∃ ROW : Array Value, ROW = (F.take (3 * i)).toArray ++ Builtin.zeroCells Z3.cells k ++ Builtin.zeroCells Z3.cells (G - (cap + 1)) := ⟨_, rfl⟩
  have hrz : ∀ ty, (Builtin.append_ #[60, 3] ty #[.slice (some ⟨g, 0, none⟩) i cap, .int .i64 ((cap : Int) + 1 - (i : Int))]).run Tryd.prog w =
      .ok (.slice (some ⟨w.heap.size, 0, none⟩) (cap + 1) G) (w.drew.alloc (.cells ROW 77)) := fun ty => by
    have h := Lib.run_append_grow_zeros w 60 3 ty 77 i0 _ .i64 .i64 Tryd.underlying60 Tryd.underlying3 hi0 hz0 (some ⟨g, 0, none⟩) i cap (F.take (3 * i)) hold k (by omega) (by omega) (by omega) (by omega) (by rw [hzb]; omega) (by rw [hzb, hik]; exact growslice_fits hroom (by omega))
    rw [hik] at h
    rw [hkk, hG, hROW, hG]
    exact h
  have hzc : ∀ m, (Builtin.zeroCells Z3.cells m).size = 3 * m := fun m => by rw [hZ3]; simp [Builtin.zeroCells, Value.cells]; omega
  have hGn : cap + 1 ≤ G := by rw [hG]; exact grownCap_ge w _ _ _
  have hGm : G ≤ maxLen := by rw [hG]; exact grownCap_le_maxLen w (cap + 1) cap 77 (by unfold maxLen; omega)
  have hG63 : G ≤ 9223372036854775807 := by simpa [maxLen] using hGm
  have hRs : ROW.size = G * 3 := by
    rw [hROW, Array.size_append, Array.size_append, hzc, hzc]
    simp
    omega
  have hRl : ROW.toList = F.take (3 * i) ++ ((Builtin.zeroCells Z3.cells k).toList ++ (Builtin.zeroCells Z3.cells (G - (cap + 1))).toList) := by
    rw [hROW]; simp
  have hZl : 3 * (cap + 1 - i) ≤ ((Builtin.zeroCells Z3.cells k).toList ++ (Builtin.zeroCells Z3.cells (G - (cap + 1))).toList).length := by
    rw [List.length_append, Array.length_toList, Array.length_toList, hzc, hzc]; omega
  obtain ⟨N, hN⟩ : ∃ N, N = w.heap.size := ⟨_, rfl⟩
  obtain ⟨W1, hW1⟩ : ∃ W1, W1 = w.drew.alloc (.cells ROW 77) := ⟨_, rfl⟩
  rw [← hW1, ← hN] at hrz
  have hB1 : Below w.heap.size w W1 := by rw [hW1]; exact (Below.refl _ w).drew.alloc (Nat.le_refl _) _
  have hg1 : W1.heap[N]? = some (.cells ROW 77 (0, 0)) := by rw [hW1, hN]; exact heap_alloc_new w.drew _
  have hv1 : W1.heap[vb]? = some (.cells (encB x).toArray 77) := by rw [hB1.block vb hvw]; exact hv
  obtain ⟨D, hD⟩ : ∃ D, D = F.drop (3 * i) := ⟨_, rfl⟩
  have hDl : D.length = (cap - i) * 3 := by rw [hD, List.length_drop, hFl]; omega
  obtain ⟨E, hE⟩ : ∃ E, E = encB x := ⟨_, rfl⟩
  have hEl : E.length = 3 := by rw [hE]; rfl
  have hcpA : ∀ ty dc, (Builtin.copy_ #[60, 60] ty #[.slice (some ⟨N, i * 3, none⟩) (cap + 1 - i) dc, .slice (some ⟨vb, 0, none⟩) 1 1]).run Tryd.prog W1 = .ok (goInt 1) (W1.setCells N (i * 3) E) := fun ty dc =>
    run_copyK W1 _ _ ty 77 3 N (i * 3) (cap + 1 - i) dc ⟨vb, 0, none⟩ 1 1 1 E Tryd.underlying60 hsz (by simp only [Nat.min_def]; split <;> omega) (by rw [hEl])
      (fun j v hj => by rw [add_lit]; exact news_B hv1 j v (by rw [← hE]; exact hj))
      (fun j hj => by rw [cell_of_row W1 N _ _ _ _ hg1, Array.getElem?_eq_getElem (by rw [hRs]; omega)]; rfl)
      (fun j hj => Lib.frozen_of_heap hg1 _) (fun v hv => flatB_one' x v (by rw [← hE]; exact hv))
  obtain ⟨W2, hW2⟩ : ∃ W2, W2 = W1.setCells N (i * 3) E := ⟨_, rfl⟩
  rw [← hW2] at hcpA
  have hg2 : W2.heap[N]? = some (.cells (setL ROW (i * 3) E) 77 (0, 0)) := by rw [hW2]; exact heap_setCells N E _ W1 _ _ _ hg1
  have hgo : ∀ j v, F[j]? = some v → W2.cell? ⟨g, j, none⟩ = some v := by
    intro j v hj
    have h1 : W2.heap[g]? = w.heap[g]? := by rw [hW2, heap_setCells_other N g (by omega)]; exact hB1.block g hgw
    rw [World.cell?_of_block (w := w) (w' := W2) h1]
    exact hcell j v hj
  have hcpB : ∀ ty dc sc, (Builtin.copy_ #[60, 60] ty #[.slice (some ⟨N, (i + 1) * 3, none⟩) (cap - i) dc, .slice (some ⟨g, i * 3, none⟩) (cap - i) sc]).run Tryd.prog W2.drew = .ok (goInt ((cap - i : Nat) : Int)) (W2.drew.setCells N ((i + 1) * 3) D) := fun ty dc sc =>
    run_copyK W2.drew _ _ ty 77 3 N ((i + 1) * 3) (cap - i) dc ⟨g, i * 3, none⟩ (cap - i) sc (cap - i) D Tryd.underlying60 hsz (by simp only [Nat.min_def]; split <;> omega) hDl
      (fun j v hj => by rw [add_lit]; exact hgo (i * 3 + j) v (by rw [hD, List.getElem?_drop] at hj; rw [show i * 3 + j = 3 * i + j by omega]; exact hj))
      (fun j hj => by
        rw [show W2.drew.cell? ⟨N, (i + 1) * 3 + j, none⟩ = W2.cell? ⟨N, (i + 1) * 3 + j, none⟩ from rfl, cell_of_row W2 N _ _ _ _ hg2, Array.getElem?_eq_getElem (by rw [setL_size, hRs]; omega)]; rfl)
      (fun j hj => Lib.frozen_of_heap (w := W2) hg2 _) (fun v hv => hF1 v (by rw [hD] at hv; exact List.mem_of_mem_drop hv))
  have HFIN : Hid (InsPost B (rs.take i ++ x :: rs.drop i) (.slice (some ⟨g, 0, none⟩) cap cap) w (.returned (.slice (some ⟨N, 0, none⟩) (cap + 1) G)) (W2.drew.setCells N ((i + 1) * 3) D)) := by
    have hg3 := heap_setCells N D ((i + 1) * 3) W2.drew _ _ _ hg2
    obtain ⟨s1, s2, s3, s4⟩ := size_setCells N D ((i + 1) * 3) W2.drew
    obtain ⟨r1, r2, r3, r4⟩ := size_setCells N E (i * 3) W1
    rw [← hW2] at r1 r2 r3 r4
    have hlen : (rs.take i ++ x :: rs.drop i).length = cap + 1 := by simp; omega
    have hfl : flatB (rs.take i ++ x :: rs.drop i) = F.take (3 * i) ++ (E ++ F.drop (3 * i)) := by
      rw [flatB_app, flatB_one, (flatB_take rs i (by omega)).1, (flatB_take rs i (by omega)).2, ← hF, hE]
    refine ⟨_, rfl, ⟨?_, .inr ⟨N, G, _, by rw [hlen], by omega, hg3, by rw [hlen]; exact hGn, hGm, by rw [setL_size, setL_size]; exact hRs, ?_⟩⟩, ?_, fun k hk => .inr (by have e : N = k := Option.some.inj hk; omega)⟩
    · rw [flatB_len3]; omega
    · rw [hlen, hfl]
      refine grow_cells F E _ cap i (by omega) hFl hEl ROW.toList (setL ROW (i * 3) E).toList _ hRl hZl ?_ ?_
      · rw [setL_list E ROW _ (by rw [hEl, hRs]; omega)]
      · rw [setL_list D _ _ (by rw [setL_size, hDl, hRs]; omega), ← hD]
    · refine ⟨by rw [s2]; exact r2.trans hB1.os, by rw [s3]; exact r3.trans hB1.tape, by rw [s4]; exact r4.trans hB1.output, ?_, fun k hk _ => ?_⟩
      · rw [s1]
        show w.heap.size ≤ W2.heap.size
        rw [r1]; exact hB1.size
      · rw [heap_setCells_other N k (by omega)]
        show W2.heap[k]? = _
        rw [hW2, heap_setCells_other N k (by omega)]
        exact hB1.block k hk
  have c1 : ∀ W, (Instr.slice 60 (.slice (some ⟨g, 0, none⟩) cap cap) (some (.int .i64 i)) none none).run Tryd.prog W = .ok (.slice (some ⟨g, i * 3, none⟩) (cap - i) (cap - i)) W := fun W => by
    have := cutB_from g 0 cap cap i (by omega) (by omega) W
    rw [if_neg (by omega), Nat.zero_add] at this
    exact this
  have c2 : ∀ W, (Instr.slice 60 (.slice (some ⟨g, 0, none⟩) cap cap) none (some (.int .i64 i)) none).run Tryd.prog W = .ok (.slice (some ⟨g, 0, none⟩) i cap) W := cutB_to (some ⟨g, 0, none⟩) cap cap i (by omega)
  have c3 : ∀ W, (Instr.slice 60 (.slice (some ⟨N, 0, none⟩) (cap + 1) G) (some (.int .i64 i)) none none).run Tryd.prog W = .ok (.slice (some ⟨N, i * 3, none⟩) (cap + 1 - i) (G - i)) W := fun W => by
    have := cutB_from N 0 (cap + 1) G i (by omega) (by omega) W
    rw [if_neg (by omega), Nat.zero_add] at this
    exact this
  have hz2 : ¬ ((i : Int) = (cap : Int)) := by omega
  have hz3 : (cap : Int) < (cap : Int) + 1 := by omega
  have hw1 : IntKind.i64.wrap ((i : Int) + 1) = (i : Int) + 1 := by rw [IntKind.wrap_i64]; omega
  have hb1 : (0 : Int) ≤ (i : Int) + 1 := by omega
  have hb5 : (i : Int) + 1 ≤ (cap : Int) + 1 := by omega
  have htn : ((i : Int) + 1).toNat = i + 1 := by omega
  have hb2 : ¬ (G = i + 1) := by omega
  have hb3 : (i : Int) ≤ (cap : Int) := by omega
  have hb4 : ¬ (cap = i) := by omega
  clear hn hF hFl hF1 hcell hsz hD hDl hE hEl hg1 hv1 hg hv ht hW1 hW2 hg2 hgo hi0 hz0 hzs hzb hold hROW hRs hRl hZl hzc hG hGm hB1 hkk hik hk hZ3 hgw hvw hN hB hGn hroom
  go_enter Tryd.func57, Tryd.ntmps57
  go_wp2_with (first
    | (at_builtin; refine Lib.wpList_append_run _ rfl _ _ _ _ rfl _ _ rfl rfl _ _ (hrz _) ?_)
    | (at_builtin; refine wpList_copy_runI _ rfl _ _ 60 60 rfl _ _ rfl rfl (hcpA _ _) ?_))
  go_region_law (refine step_copy_runI rfl _ _ 60 60 rfl _ _ (by simp [Act.eval, Act.put]) (by simp [Act.eval, Act.put]) (hcpB _ _ _) ?_)
  go_wp2
  go_ret
  exact HFIN.out

/-- Insert of one range at any place of the caller's own row. -/
theorem insert_any (rs : List (List Bool)) (x : List Bool) (B : Nat) (v : Value) (vb i : Nat) (w : World) (hown : w.ownsRow B 77 3 v rs.length (flatB rs)) (hB : B ≤ w.heap.size) (hi : i ≤ rs.length)
    (hv : w.heap[vb]? = some (.cells (encB x).toArray 77)) (hne : v.ownBlock ≠ some vb) (hl : rs.length ≤ 100000000) :
    Calls Tryd.prog 57 #[v, .int .i64 i, .slice (some ⟨vb, 0, none⟩) 1 1] w (InsPost B (rs.take i ++ x :: rs.drop i) v w) := by
  rcases Nat.eq_or_lt_of_le hi with rfl | hlt
  · have := insert_end rs x B v vb w hown hB hv hl
    rw [List.take_length, List.drop_length]
    exact this
  · rcases hown.2 with ⟨rfl, h0⟩ | ⟨g, cap, cur, rfl, hbg, hg, hnc, hm, hs, ht⟩
    · omega
    · have hvg : vb ≠ g := fun e => hne (by rw [e]; rfl)
      by_cases hroom : rs.length + 1 ≤ cap
      · exact insert_shift rs x B g cap cur vb i w hbg hg hm hs ht hlt hroom hvg hv
      · exact insert_grow rs x B g cap cur vb i w hB hg hnc ht hlt (by omega) hl hv
end Go.Proofs.YtlelbepfkkaojaaDoor
