/- In one text: DfaNb, DfaNc, DfaPo, DfaPn. -/
import Derived.Test.YthdeadmnicmgfaaDoorJ13
import Derived.Laws.StructEq
import Derived.ChangeKeysEq
import Derived.Deep.CutBlock
/- Numbers of many keys: rows of numbers in memory; the walks of numbers. -/
namespace Go.Proofs.YthdeadmnicmgfaaDoor
open Go.RowKit Go.Shelf Go.Maps
set_option linter.unusedVariables false
set_option linter.unusedSimpArgs false

def iv (l : List Nat) : List Value := l.map (fun (c : Nat) => Value.int .i64 (c : Int))
/-- A row of numbers, a block of its own. -/
def IRow (w : World) (b : Nat) (l : List Nat) : Prop := w.heap[b]? = some (.cells (iv l).toArray 3)
theorem IRow.rd {w : World} {b : Nat} {l : List Nat} (h : IRow w b l) : Rd .i64 w (some ⟨b, 0, none⟩) l.length (intsN l) := by
  refine ⟨by simp [intsN], fun _ => ⟨b, 0, rfl, fun i hi => ?_⟩⟩
  rw [Nat.zero_add, cell_of_row w b i _ _ _ h]
  simp [iv, intsN, List.getD_eq_getElem?_getD, hi]
theorem IRow.cell {w : World} {b : Nat} {l : List Nat} (h : IRow w b l) {i : Nat} (hi : i < l.length) : w.cell? ⟨b, i, none⟩ = some (.int .i64 (l[i] : Int)) := by
  rw [cell_of_row w b i _ _ _ h]
  simp [iv, hi]
theorem IRow.frozen {w : World} {b : Nat} {l : List Nat} (h : IRow w b l) (i : Nat) : w.frozen? ⟨b, i, none⟩ = false := Lib.frozen_of_heap h i
theorem IRow.set {w : World} {b : Nat} {l : List Nat} (h : IRow w b l) (i x : Nat) : IRow (w.setCell ⟨b, i, none⟩ (.int .i64 (x : Int))) b (l.set i x) := by
  unfold IRow
  rw [heap_setCell_same w b i _ _ _ h]
  simp [iv, List.map_set]
theorem IRow.later {w w' : World} {b : Nat} {l : List Nat} (h : IRow w b l) (hb : Below w.heap.size w w') : IRow w' b l := (hb.block b (Array.getElem?_eq_some_iff.1 h).1).trans h
theorem IRow.lt {w : World} {b : Nat} {l : List Nat} (h : IRow w b l) : b < w.heap.size := (Array.getElem?_eq_some_iff.1 h).1
theorem IRow.grown {w w' : World} {b g : Nat} {l : List Nat} (h : IRow w b l) (hg : w.grownBy w' (some g)) (hne : b ≠ g) : IRow w' b l := (hg.block b h.lt (fun e => hne (Option.some.inj e))).trans h
theorem made_one (v : Value) (n : Nat) : (madeCells #[v] n).toList = List.replicate n v := by
  apply List.ext_getElem
  · simp [size_madeCells]
  · intro i h1 h2
    simp [madeCells, Nat.mod_one]
theorem made_i (n : Nat) : (madeCells (Value.int .i64 0).cells (n * 1)) = (iv (List.replicate n 0)).toArray := by
  apply Array.ext'
  rw [Nat.mul_one]
  refine (made_one (.int .i64 0) n).trans ?_
  simp [iv]
theorem make_i (n : Nat) (hn : n ≤ 1000000) (W : World) : (Instr.makeSlice 35 (.int .i64 (n : Int)) (.int .i64 (n : Int))).run Tryd.prog W = .ok (.slice (some ⟨W.heap.size, 0, none⟩) n n) (W.alloc (.cells (iv (List.replicate n 0)).toArray 3)) := by
  obtain ⟨i0, hi, hz0, hz1, hz2⟩ := info_parts info_i
  have := run_make (P := Tryd.prog) W 35 3 i0 _ Tryd.underlying35 hi hz0 .i64 .i64 (n : Int) (n : Int) (by omega) (by omega) (by rw [hz2]; omega) (by omega)
  rw [show ((n : Int)).toNat = n by omega, hz1, made_i] at this
  exact this
/-- The numbers of the first keys. -/
structure NuP {α : Type} (lit : α → Lit) (keys : List α) (k : Nat) (ks : List Lit) (l : List Nat) : Prop where
  keysy : Keysy ks
  len : l.length = k
  at_ : ∀ i (hi : i < keys.length), i < k → ks[l.getD i 0]? = some (lit keys[i])
  met : metRow 0 l = some ks.length
  few : ks.length ≤ k
theorem NuP.done {α : Type} {lit : α → Lit} {keys : List α} {ks : List Lit} {l : List Nat} (hinj : ∀ i j (hi : i < keys.length) (hj : j < keys.length), lit keys[i] = lit keys[j] → keys[i] = keys[j]) (h : NuP lit keys keys.length ks l) : NumOf keys l ks.length := by
  refine ⟨h.len, h.met, fun i j hi hj => ⟨fun e => ?_, fun e => ?_⟩⟩
  · have h1 := h.at_ i hi hi
    have h2 := h.at_ j hj hj
    rw [e, h2] at h1
    exact (hinj j i hj hi (Option.some.inj h1)).symm
  · have h1 := h.at_ i hi hi
    have h2 := h.at_ j hj hj
    rw [e, ← h2] at h1
    obtain ⟨a1, a2⟩ := List.getElem?_eq_some_iff.1 h2
    obtain ⟨b1, b2⟩ := List.getElem?_eq_some_iff.1 (h1.trans h2)
    exact (List.getElem_inj h.keysy.1).1 (b2.trans a2.symm)
theorem NuP.step {α : Type} {lit : α → Lit} {keys : List α} {k : Nat} {ks ks' : List Lit} {l : List Nat} {i : Nat} (h : NuP lit keys k ks l) (hk : k < keys.length) (hks : Keysy ks') (hi : ks'[i]? = some (lit keys[k])) (hor : (ks' = ks ∧ i < ks.length) ∨ (lit keys[k] ∉ ks ∧ ks' = ks ++ [lit keys[k]] ∧ i = ks.length)) : NuP lit keys (k + 1) ks' (l ++ [i]) := by
  have hpre : ∀ j x, ks[j]? = some x → ks'[j]? = some x := fun j x hx => by
    rcases hor with ⟨rfl, _⟩ | ⟨_, rfl, _⟩
    · exact hx
    · rw [List.getElem?_append_left (List.getElem?_eq_some_iff.1 hx).1]; exact hx
  refine ⟨hks, by simp [h.len], fun j hj hjk => ?_, ?_, ?_⟩
  · rcases Nat.lt_or_ge j k with h1 | h1
    · rw [List.getD_eq_getElem?_getD, List.getElem?_append_left (by rw [h.len]; exact h1), ← List.getD_eq_getElem?_getD]
      exact hpre _ _ (h.at_ j hj h1)
    · obtain rfl : j = k := by omega
      rw [List.getD_eq_getElem?_getD, List.getElem?_append_right (by rw [h.len]; exact Nat.le_refl _), h.len, Nat.sub_self]
      exact hi
  · rw [metRow_app, h.met]
    simp only [Option.bind_some, metRow]
    rcases hor with ⟨rfl, h1⟩ | ⟨_, rfl, rfl⟩
    · rw [if_pos h1]
    · rw [if_neg (by omega), if_pos rfl]; simp
  · rcases hor with ⟨rfl, _⟩ | ⟨_, rfl, _⟩
    · have := h.few; omega
    · have := h.few; simp; omega
set_option maxRecDepth 100000 in
set_option maxHeartbeats 4000000 in
theorem numsU (keys : List Nat) (a : Option Addr) (c : Nat) (w : World) (hrd : Rd .u64 w a keys.length (intsN keys)) (hlt : ∀ x ∈ keys, x < 2 ^ 64) (hl : keys.length ≤ 100000) :
    Calls Tryd.prog 61 #[.slice a keys.length c] w fun e w' => ∃ b l cnt, e = .returned (.tuple #[.slice (some ⟨b, 0, none⟩) keys.length keys.length, .int .i64 ((cnt : Nat) : Int)]) ∧ IRow w' b l ∧ NumOf keys l cnt ∧ Below w.heap.size w w' ∧ w.heap.size ≤ b := by
  obtain ⟨m, hm⟩ : ∃ m, m = keys.length := ⟨_, rfl⟩
  have HM : Hid (m = keys.length) := hm
  have hmi : (m : Int) ≤ 100000 := by omega
  have hmm := @run_makeMap Tryd.prog
  have hmk := make_i m (by omega)
  obtain ⟨wM, hwM⟩ : ∃ wM, wM = w.alloc (.map #[] 0) := ⟨_, rfl⟩
  obtain ⟨wA, hwA⟩ : ∃ wA, wA = wM.alloc (.cells (iv (List.replicate m 0)).toArray 3) := ⟨_, rfl⟩
  obtain ⟨H, hH⟩ : ∃ H, H = w.heap.size := ⟨_, rfl⟩
  have hMs : wM.heap.size = H + 1 := by rw [hwM, hH]; simp
  have HBM : Hid (Below w.heap.size w wM) := by rw [hwM]; exact (Below.refl _ w).alloc (Nat.le_refl _) _
  have HBA : Hid (Below w.heap.size w wA) := by rw [hwA]; exact HBM.out.alloc HBM.out.size _
  have HIR : Hid (IRow wA (H + 1) (List.replicate m 0)) := by show IRow _ _ _; rw [hwA, ← hMs]; exact heap_alloc_new wM _
  have HMP : Hid (wA.ownsMap Tryd.prog 56 (plainElem (H := Unit) Tryd.prog 3) H 0 (kD [])) := by rw [hwA, hwM, hH]; exact (World.ownsMap_made w _ _ _).alloc _
  have HH : Hid (w.heap.size ≤ H) := by rw [hH]; exact Nat.le_refl _
  have HRD : Hid (Rd .u64 w a m (intsN keys)) := by rw [hm]; exact hrd
  have HLT : Hid (∀ x ∈ keys, x < 2 ^ 64) := hlt
  clear hrd hlt
  rw [← hm]
  clear hl hm hMs
  go_enter Tryd.func61, Tryd.ntmps61
  go_upto_region 3 with fail
  rw [← hH, ← hwM, ← hwA]
  clear hH hwM hwA hmm hmk
  go_wp2
  go_loopw [6, 7, 14] (fun x6 x7 x14 wr => ∃ (k : Nat) (ks : List Lit) (l : List Nat), k ≤ m ∧ x14 = .int .i64 k ∧ NuP (fun x : Nat => Go.Lit.int .u64 (x : Int)) keys k ks l ∧ wr.ownsMap Tryd.prog 56 (plainElem (H := Unit) Tryd.prog 3) H ks.length (kD ks) ∧ IRow wr (H + 1) (l ++ List.replicate (m - k) 0) ∧ Below w.heap.size w wr) (fun _ _ x14 _ => m - (intOf x14).toNat)
  case atStart => exact ⟨0, [], [], by omega, rfl, ⟨⟨List.nodup_nil, fun k hk => (by simp at hk)⟩, rfl, fun i _ hi => (by omega), rfl, by simp⟩, HMP.out, by simpa using HIR.out, HBA.out⟩
  case round =>
    obtain ⟨k, ks, l, hk, hx14, hnu, hown, hir, hbw⟩ := hrel
    subst hx14
    have HNU : Hid (NuP (fun x : Nat => Go.Lit.int .u64 (x : Int)) keys k ks l) := hnu
    have HOWN : Hid (wr.ownsMap Tryd.prog 56 (plainElem (H := Unit) Tryd.prog 3) H ks.length (kD ks)) := hown
    have HIW : Hid (IRow wr (H + 1) (l ++ List.replicate (m - k) 0)) := hir
    have HBW : Hid (Below w.heap.size w wr) := hbw
    clear hnu hown hir hbw
    by_cases hlt : k < m
    · have hkl : k < keys.length := by rw [← HM.out]; exact hlt
      obtain ⟨b, off, rfl, hcl⟩ := HRD.out.2 (by omega)
      have hcc := upC HBW.out (hcl k hlt)
      obtain ⟨X, hX⟩ : ∃ X, X = keys[k] := ⟨_, rfl⟩
      rw [show (intsN keys).getD k 0 = (X : Int) by rw [hX]; simp [intsN, List.getD_eq_getElem?_getD, hkl]] at hcc
      have HXL : Hid (X = keys[k]) := hX
      have HC : Hid (Calls Tryd.prog 89 #[.map (some H), .int .u64 (X : Int)] wr (NumP 56 H ks (.int .u64 (X : Int)) wr)) := num_u64 H ks X wr HOWN.out HNU.out.keysy (by have := HNU.out.few; omega) (by rw [hX]; exact HLT.out _ (List.getElem_mem hkl))
      clear hX hcl
      go_wp2_with fail
      refine HC.out.mono ?_
      rintro e w1 ⟨i, ks', rfl, hown1, hg1, hks1, hi1, hor1⟩
      have hir1 := HIW.out.grown hg1 (by omega)
      have hlw : k < (l ++ List.replicate (m - k) 0).length := by simp [HNU.out.len]; omega
      have c1 := hir1.cell hlw
      obtain ⟨x0, hx0⟩ : ∃ x0, x0 = (l ++ List.replicate (m - k) 0)[k] := ⟨_, rfl⟩
      rw [← hx0] at c1
      have f1 := hir1.frozen k
      obtain ⟨w2, hw2⟩ : ∃ w2, w2 = w1.setCell ⟨H + 1, k, none⟩ (.int .i64 (i : Int)) := ⟨_, rfl⟩
      have HF : Hid (NuP (fun x : Nat => Go.Lit.int .u64 (x : Int)) keys (k + 1) ks' (l ++ [i]) ∧ w2.ownsMap Tryd.prog 56 (plainElem (H := Unit) Tryd.prog 3) H ks'.length (kD ks') ∧ IRow w2 (H + 1) ((l ++ [i]) ++ List.replicate (m - (k + 1)) 0) ∧ Below w.heap.size w w2) := by
        refine ⟨HNU.out.step hkl hks1 (HXL.out ▸ hi1) (HXL.out ▸ hor1), ?_, ?_, ?_⟩
        · rw [hw2]; exact hown1.setCell (by show H ≠ H + 1; omega) _
        · rw [hw2]
          have h1 := hir1.set k i
          have h2 : (l ++ List.replicate (m - k) 0).set k i = (l ++ [i]) ++ List.replicate (m - (k + 1)) 0 := by
            rw [List.set_append_right _ _ (by rw [HNU.out.len]; exact Nat.le_refl _), HNU.out.len, Nat.sub_self, show m - k = (m - (k + 1)) + 1 by omega, List.replicate_succ, List.set_cons_zero, List.append_assoc]
            rfl
          rw [h2] at h1
          exact h1
        · rw [hw2]
          exact (HBW.out.grown hg1 HBW.out.size (fun j e => by cases e; exact HH.out)).setCell (p := ⟨H + 1, k, none⟩) (by show w.heap.size ≤ H + 1; have := HH.out; omega) _
      clear hown1 hg1 hks1 hi1 hor1 hir1 hx0 HC hlw
      go_wp2_with fail
      rw [← hw2]
      clear hw2 c1 f1
      go_roundw
      case rel => exact ⟨k + 1, ks', l ++ [i], by omega, by go_num, HF.out⟩
      case measure => simp [intOf]; omega
    · obtain rfl : k = m := by omega
      have hlen := HOWN.out.len (e := 3) Tryd.underlying164
      rw [kD_size ks HNU.out.keysy] at hlen
      have HF : Hid (IRow wr (H + 1) l ∧ NumOf keys l ks.length ∧ Below w.heap.size w wr ∧ w.heap.size ≤ H + 1) := by
        have h1 := HNU.out
        rw [HM.out] at h1
        exact ⟨by have := HIW.out; rw [Nat.sub_self] at this; simpa using this, h1.done (fun i j hi hj e => by have := (Go.Lit.int.inj e).2; omega), HBW.out, by have := HH.out; omega⟩
      go_wp2
      go_ret2
      exact ⟨H + 1, l, ks.length, rfl, HF.out⟩
end Go.Proofs.YthdeadmnicmgfaaDoor

/- Numbers of many texts. -/
namespace Go.Proofs.YthdeadmnicmgfaaDoor
open Go.RowKit Go.Shelf Go.Maps
set_option linter.unusedVariables false
set_option linter.unusedSimpArgs false

/-- A row of texts. -/
def TRow (w : World) (a : Option Addr) (b : Nat) (ts : List (List Nat)) : Prop := a = some ⟨b, 0, none⟩ ∧ ∀ i (hi : i < ts.length), w.cell? ⟨b, i, none⟩ = some (.string (tS ts[i]))
set_option maxRecDepth 100000 in
set_option maxHeartbeats 4000000 in
theorem numsS (keys : List (List Nat)) (a : Option Addr) (c : Nat) (w : World) (b0 : Nat) (hrd : TRow w a b0 keys) (hlt : ∀ x ∈ keys, x.length ≤ 1000000 ∧ ∀ c ∈ x, c < 128) (hl : keys.length ≤ 100000) :
    Calls Tryd.prog 62 #[.slice a keys.length c] w fun e w' => ∃ b l cnt, e = .returned (.tuple #[.slice (some ⟨b, 0, none⟩) keys.length keys.length, .int .i64 ((cnt : Nat) : Int)]) ∧ IRow w' b l ∧ NumOf keys l cnt ∧ Below w.heap.size w w' ∧ w.heap.size ≤ b := by
  obtain ⟨m, hm⟩ : ∃ m, m = keys.length := ⟨_, rfl⟩
  have HM : Hid (m = keys.length) := hm
  have hmi : (m : Int) ≤ 100000 := by omega
  have hmm := @run_makeMap Tryd.prog
  have hmk := make_i m (by omega)
  obtain ⟨wM, hwM⟩ : ∃ wM, wM = w.alloc (.map #[] 0) := ⟨_, rfl⟩
  obtain ⟨wA, hwA⟩ : ∃ wA, wA = wM.alloc (.cells (iv (List.replicate m 0)).toArray 3) := ⟨_, rfl⟩
  obtain ⟨H, hH⟩ : ∃ H, H = w.heap.size := ⟨_, rfl⟩
  have hMs : wM.heap.size = H + 1 := by rw [hwM, hH]; simp
  have HBM : Hid (Below w.heap.size w wM) := by rw [hwM]; exact (Below.refl _ w).alloc (Nat.le_refl _) _
  have HBA : Hid (Below w.heap.size w wA) := by rw [hwA]; exact HBM.out.alloc HBM.out.size _
  have HIR : Hid (IRow wA (H + 1) (List.replicate m 0)) := by show IRow _ _ _; rw [hwA, ← hMs]; exact heap_alloc_new wM _
  have HMP : Hid (wA.ownsMap Tryd.prog 9 (plainElem (H := Unit) Tryd.prog 3) H 0 (kD [])) := by rw [hwA, hwM, hH]; exact (World.ownsMap_made w _ _ _).alloc _
  have HH : Hid (w.heap.size ≤ H) := by rw [hH]; exact Nat.le_refl _
  have HRD : Hid (TRow w a b0 keys) := hrd
  obtain rfl : a = some ⟨b0, 0, none⟩ := hrd.1
  have HLT : Hid (∀ x ∈ keys, x.length ≤ 1000000 ∧ ∀ c ∈ x, c < 128) := hlt
  clear hrd hlt
  rw [← hm]
  clear hl hm hMs
  go_enter Tryd.func62, Tryd.ntmps62
  go_upto_region 3 with fail
  rw [← hH, ← hwM, ← hwA]
  clear hH hwM hwA hmm hmk
  go_wp2
  go_loopw [6, 7, 14] (fun x6 x7 x14 wr => ∃ (k : Nat) (ks : List Lit) (l : List Nat), k ≤ m ∧ x14 = .int .i64 k ∧ NuP (fun x : List Nat => Go.Lit.string (tS x).data.toList) keys k ks l ∧ wr.ownsMap Tryd.prog 9 (plainElem (H := Unit) Tryd.prog 3) H ks.length (kD ks) ∧ IRow wr (H + 1) (l ++ List.replicate (m - k) 0) ∧ Below w.heap.size w wr) (fun _ _ x14 _ => m - (intOf x14).toNat)
  case atStart => exact ⟨0, [], [], by omega, rfl, ⟨⟨List.nodup_nil, fun k hk => (by simp at hk)⟩, rfl, fun i _ hi => (by omega), rfl, by simp⟩, HMP.out, by simpa using HIR.out, HBA.out⟩
  case round =>
    obtain ⟨k, ks, l, hk, hx14, hnu, hown, hir, hbw⟩ := hrel
    subst hx14
    have HNU : Hid (NuP (fun x : List Nat => Go.Lit.string (tS x).data.toList) keys k ks l) := hnu
    have HOWN : Hid (wr.ownsMap Tryd.prog 9 (plainElem (H := Unit) Tryd.prog 3) H ks.length (kD ks)) := hown
    have HIW : Hid (IRow wr (H + 1) (l ++ List.replicate (m - k) 0)) := hir
    have HBW : Hid (Below w.heap.size w wr) := hbw
    clear hnu hown hir hbw
    by_cases hlt : k < m
    · have hkl : k < keys.length := by rw [← HM.out]; exact hlt
      have hcc := upC HBW.out (HRD.out.2 k hkl)
      obtain ⟨X, hX⟩ : ∃ X, X = keys[k] := ⟨_, rfl⟩
      have hcl : True := trivial
      rw [← hX] at hcc
      have HXL : Hid (X = keys[k]) := hX
      have HC : Hid (Calls Tryd.prog 82 #[.map (some H), .string (tS X)] wr (NumP 9 H ks (.string (tS X).data.toList) wr)) := num_str H ks (tS X) wr HOWN.out HNU.out.keysy (by have := HNU.out.few; omega) (by rw [tS_size, hX]; have := (HLT.out _ (List.getElem_mem hkl)).1; unfold maxLen; omega)
      clear hX hcl
      go_wp2_with fail
      refine HC.out.mono ?_
      rintro e w1 ⟨i, ks', rfl, hown1, hg1, hks1, hi1, hor1⟩
      have hir1 := HIW.out.grown hg1 (by omega)
      have hlw : k < (l ++ List.replicate (m - k) 0).length := by simp [HNU.out.len]; omega
      have c1 := hir1.cell hlw
      obtain ⟨x0, hx0⟩ : ∃ x0, x0 = (l ++ List.replicate (m - k) 0)[k] := ⟨_, rfl⟩
      rw [← hx0] at c1
      have f1 := hir1.frozen k
      obtain ⟨w2, hw2⟩ : ∃ w2, w2 = w1.setCell ⟨H + 1, k, none⟩ (.int .i64 (i : Int)) := ⟨_, rfl⟩
      have HF : Hid (NuP (fun x : List Nat => Go.Lit.string (tS x).data.toList) keys (k + 1) ks' (l ++ [i]) ∧ w2.ownsMap Tryd.prog 9 (plainElem (H := Unit) Tryd.prog 3) H ks'.length (kD ks') ∧ IRow w2 (H + 1) ((l ++ [i]) ++ List.replicate (m - (k + 1)) 0) ∧ Below w.heap.size w w2) := by
        refine ⟨HNU.out.step hkl hks1 (HXL.out ▸ hi1) (HXL.out ▸ hor1), ?_, ?_, ?_⟩
        · rw [hw2]; exact hown1.setCell (by show H ≠ H + 1; omega) _
        · rw [hw2]
          have h1 := hir1.set k i
          have h2 : (l ++ List.replicate (m - k) 0).set k i = (l ++ [i]) ++ List.replicate (m - (k + 1)) 0 := by
            rw [List.set_append_right _ _ (by rw [HNU.out.len]; exact Nat.le_refl _), HNU.out.len, Nat.sub_self, show m - k = (m - (k + 1)) + 1 by omega, List.replicate_succ, List.set_cons_zero, List.append_assoc]
            rfl
          rw [h2] at h1
          exact h1
        · rw [hw2]
          exact (HBW.out.grown hg1 HBW.out.size (fun j e => by cases e; exact HH.out)).setCell (p := ⟨H + 1, k, none⟩) (by show w.heap.size ≤ H + 1; have := HH.out; omega) _
      clear hown1 hg1 hks1 hi1 hor1 hir1 hx0 HC hlw
      go_wp2_with fail
      rw [← hw2]
      clear hw2 c1 f1
      go_roundw
      case rel => exact ⟨k + 1, ks', l ++ [i], by omega, by go_num, HF.out⟩
      case measure => simp [intOf]; omega
    · obtain rfl : k = m := by omega
      have hlen := HOWN.out.len (e := 3) Tryd.underlying154
      rw [kD_size ks HNU.out.keysy] at hlen
      have HF : Hid (IRow wr (H + 1) l ∧ NumOf keys l ks.length ∧ Below w.heap.size w wr ∧ w.heap.size ≤ H + 1) := by
        have h1 := HNU.out
        rw [HM.out] at h1
        exact ⟨by have := HIW.out; rw [Nat.sub_self] at this; simpa using this, h1.done (fun i j hi hj e => tS_inj (HLT.out _ (List.getElem_mem hi)).2 (HLT.out _ (List.getElem_mem hj)).2 (Go.Lit.string.inj e)), HBW.out, by have := HH.out; omega⟩
      go_wp2
      go_ret2
      exact ⟨H + 1, l, ks.length, rfl, HF.out⟩
end Go.Proofs.YthdeadmnicmgfaaDoor

/- Sets of nodes held against none. -/
namespace Go.Proofs.YthdeadmnicmgfaaDoor
open Go.RowKit Go.Shelf
set_option linter.unusedVariables false
set_option linter.unusedSimpArgs false

theorem eq_ns (a0 a1 a2 a3 a4 a5 a6 : Int) (W : World) : (Op.equalIn 10000 115 (.agg #[.int .u64 a0, .int .u64 a1, .int .u64 a2, .int .u64 a3, .int .u64 a4, .int .u64 a5, .int .u64 a6]) (.agg #[.int .u64 0, .int .u64 0, .int .u64 0, .int .u64 0, .int .u64 0, .int .u64 0, .int .u64 0])).run Tryd.prog W = .ok ((a0 == 0) && (a1 == 0) && (a2 == 0) && (a3 == 0) && (a4 == 0) && (a5 == 0) && (a6 == 0)) W := by
  have u := Tryd.underlying56
  have z := Tryd.sizeOf56
  have a := Tryd.isAgg56
  obtain ⟨i0, hi, h0, h1, h2⟩ := info_parts (show (Tryd.prog.info? 56).map (fun i => (i.zero, i.size, i.bytes)) = some (some (.int .u64 0), 1, 8) by kernel_rfl)
  have hu : Tryd.prog.underlying 115 = some (.array 7 56) := by kernel_rfl
  have hc : Tryd.prog.cellsOf 56 = 1 := by kernel_rfl
  rw [show (10000 : Nat) = 9999 + 1 from rfl, run_equalIn_array W 9999 _ _ hu hi, hc, show List.range 7 = [0, 1, 2, 3, 4, 5, 6] from rfl, show (9999 : Nat) = 9998 + 1 from rfl]
  simp only [Op.eqItems]
  go_simp
  (repeat' split) <;> simp_all
theorem nw_none {X : Nat} (h : ∀ p, X.testBit p = true → p < 448) : (((nw X 0 : Int) == 0) && ((nw X 1 : Int) == 0) && ((nw X 2 : Int) == 0) && ((nw X 3 : Int) == 0) && ((nw X 4 : Int) == 0) && ((nw X 5 : Int) == 0) && ((nw X 6 : Int) == 0)) = decide (X = 0) := by
  by_cases hX : X = 0
  · subst hX
    simp [nw_zero]
  · rw [decide_eq_false hX, Bool.eq_false_iff]
    intro hall
    apply hX
    apply Nat.eq_of_testBit_eq
    intro p
    rw [Nat.zero_testBit, Bool.eq_false_iff]
    intro hp
    have hlt := h p hp
    simp only [Bool.and_eq_true, beq_iff_eq] at hall
    have hz : ∀ i, i < 7 → nw X i = 0 := fun i hi => by
      match i, hi with
      | 0, _ => omega
      | 1, _ => omega
      | 2, _ => omega
      | 3, _ => omega
      | 4, _ => omega
      | 5, _ => omega
      | 6, _ => omega
    have h1 := nw_bit X (p / 64) (p % 64)
    rw [hz (p / 64) (by omega), Nat.zero_testBit, show 64 * (p / 64) + p % 64 = p by omega, hp, decide_eq_true (show p % 64 < 64 by omega)] at h1
    cases h1
end Go.Proofs.YthdeadmnicmgfaaDoor

/- The walk of step. -/
namespace Go.Proofs.YthdeadmnicmgfaaDoor
open Go.RowKit Go.Shelf
set_option linter.unusedVariables false
set_option linter.unusedSimpArgs false
attribute [local go_sem] Oper.semAt_some

theorem tkM_lt (c : Int) (l : Pl) (p : Nat) (h : (tkM c l 0).testBit p = true) : p < l.length := by
  rw [tkM_bit] at h
  obtain ⟨j, e, h1, h2, _⟩ := h
  have := (List.getElem?_eq_some_iff.1 h2).1
  omega
/-- A spot's cells. -/
def spC (S : Nat) (b : Bool) : Array Value := #[nwV S 0, nwV S 1, nwV S 2, nwV S 3, nwV S 4, nwV S 5, nwV S 6, .bool b]
theorem spC_ns (S : Nat) (b : Bool) : NsIn (spC S b) 0 S := fun i hi => by
  match i, hi with
  | 0, _ => rfl
  | 1, _ => rfl
  | 2, _ => rfl
  | 3, _ => rfl
  | 4, _ => rfl
  | 5, _ => rfl
  | 6, _ => rfl
theorem jn_sp {S T : Nat} {b : Bool} {cs' : Array Value} (h : JnP (spC S b) cs' 0 7 S T) : cs' = spC (S ||| T) b := by
  apply Array.ext_getElem?
  intro i
  by_cases hi : i < 8
  · match i, hi with
    | 0, _ => exact (by have := h.done 0 (by omega); rw [Nat.zero_add] at this; exact this)
    | 1, _ => exact (by have := h.done 1 (by omega); rw [Nat.zero_add] at this; exact this)
    | 2, _ => exact (by have := h.done 2 (by omega); rw [Nat.zero_add] at this; exact this)
    | 3, _ => exact (by have := h.done 3 (by omega); rw [Nat.zero_add] at this; exact this)
    | 4, _ => exact (by have := h.done 4 (by omega); rw [Nat.zero_add] at this; exact this)
    | 5, _ => exact (by have := h.done 5 (by omega); rw [Nat.zero_add] at this; exact this)
    | 6, _ => exact (by have := h.done 6 (by omega); rw [Nat.zero_add] at this; exact this)
    | 7, _ => exact h.rest 7 (by omega)
  · rw [Array.getElem?_eq_none (by rw [h.size]; show 8 ≤ i; omega), Array.getElem?_eq_none (by show 8 ≤ i; omega)]
theorem four_0 (w : World) (a b c d : Obj) : ((((w.alloc a).alloc b).alloc c).alloc d).heap[w.heap.size]? = some a :=
  (((((Below.refl _ (w.alloc a)).alloc (Nat.le_refl _) b).alloc (by simp) c).alloc (by simp; try omega) d).block w.heap.size (by simp)).trans (heap_alloc_new w a)
theorem four_1 (w : World) (a b c d : Obj) : ((((w.alloc a).alloc b).alloc c).alloc d).heap[w.heap.size + 1]? = some b := by
  have := heap_alloc_new (w.alloc a) b
  rw [show (w.alloc a).heap.size = w.heap.size + 1 by simp] at this
  exact ((((Below.refl _ ((w.alloc a).alloc b)).alloc (Nat.le_refl _) c).alloc (by simp) d).block (w.heap.size + 1) (by simp)).trans this
theorem four_2 (w : World) (a b c d : Obj) : ((((w.alloc a).alloc b).alloc c).alloc d).heap[w.heap.size + 2]? = some c := by
  have := heap_alloc_new ((w.alloc a).alloc b) c
  rw [show ((w.alloc a).alloc b).heap.size = w.heap.size + 2 by simp] at this
  exact (((Below.refl _ (((w.alloc a).alloc b).alloc c)).alloc (Nat.le_refl _) d).block (w.heap.size + 2) (by simp)).trans this
theorem four_3 (w : World) (a b c d : Obj) : ((((w.alloc a).alloc b).alloc c).alloc d).heap[w.heap.size + 3]? = some d := by
  have := heap_alloc_new (((w.alloc a).alloc b).alloc c) d
  rw [show (((w.alloc a).alloc b).alloc c).heap.size = w.heap.size + 3 by simp] at this
  exact this
theorem ns_cells {w : World} {Y : Nat} {u0 u1 u2 u3 u4 u5 u6 : Value} {t : TypeId} (h : w.heap[Y]? = some (.cells #[u0, u1, u2, u3, u4, u5, u6] t)) : w.cell? ⟨Y, 0, none⟩ = some u0 ∧ w.cell? ⟨Y, 1, none⟩ = some u1 ∧ w.cell? ⟨Y, 2, none⟩ = some u2 ∧ w.cell? ⟨Y, 3, none⟩ = some u3 ∧ w.cell? ⟨Y, 4, none⟩ = some u4 ∧ w.cell? ⟨Y, 5, none⟩ = some u5 ∧ w.cell? ⟨Y, 6, none⟩ = some u6 ∧ w.frozen? ⟨Y, 0, none⟩ = false ∧ w.frozen? ⟨Y, 1, none⟩ = false ∧ w.frozen? ⟨Y, 2, none⟩ = false ∧ w.frozen? ⟨Y, 3, none⟩ = false ∧ w.frozen? ⟨Y, 4, none⟩ = false ∧ w.frozen? ⟨Y, 5, none⟩ = false ∧ w.frozen? ⟨Y, 6, none⟩ = false :=
  ⟨cell_of_row w Y 0 _ _ _ h, cell_of_row w Y 1 _ _ _ h, cell_of_row w Y 2 _ _ _ h, cell_of_row w Y 3 _ _ _ h, cell_of_row w Y 4 _ _ _ h, cell_of_row w Y 5 _ _ _ h, cell_of_row w Y 6 _ _ _ h, Lib.frozen_of_heap h 0, Lib.frozen_of_heap h 1, Lib.frozen_of_heap h 2, Lib.frozen_of_heap h 3, Lib.frozen_of_heap h 4, Lib.frozen_of_heap h 5, Lib.frozen_of_heap h 6⟩
theorem cells_ty {a b : Array Value} {t u : TypeId} {f g : Nat × Nat} (h : some (Obj.cells a t f) = some (Obj.cells b u g)) : t = u := by
  have h1 := Option.some.inj h
  exact (Obj.cells.inj h1).2.1
end Go.Proofs.YthdeadmnicmgfaaDoor
