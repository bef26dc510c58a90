/- The walks of the library's Clone of ranges and of the sort by first characters: a permutation of them, in order. -/
import Derived.Test.YtgncpchgmjacdaaGreatDoorPropsI
import Derived.Test.YtgncpchgmjacdaaGreatDoorShelfD
namespace Go.Proofs.YtgncpchgmjacdaaGreatDoor
open Go.RowKit
set_option linter.unusedVariables false

set_option maxHeartbeats 1000000 in
theorem clone_any (rs : List Rg) (a : Option Addr) (len cap : Nat) (w : World) (hrd : RdR w a len rs) (hnone : a = none → cap = 0) (hl : len ≤ 100000000) :
    Calls Tryz.prog 49 #[.slice a len cap] w fun e w' => ∃ v, e = .returned v ∧ w'.ownsRow w.heap.size 39 3 v len (flatR rs) ∧ Below w.heap.size w w' := by
  have hlen := hrd.1
  have q22 : ∀ (w : World) (a : Option Addr) (n c n' c' : Nat), (binOp .eql 23 (.slice a n c) (.slice none n' c')).run Tryz.prog w = .ok (.bool a.isNone) w := fun w a n c n' c' => Lib.run_eql_slice_nil w _ _ a n c n' c' Tryz.underlying23
  cases a with
  | none =>
    have h0 : len = 0 := by
      rcases Nat.eq_zero_or_pos len with h | h
      · exact h
      · obtain ⟨b, off, hb, _⟩ := hrd.2 h; cases hb
    have hr : rs = [] := List.eq_nil_of_length_eq_zero (by omega)
    have hc0 := hnone rfl
    subst h0 hr hc0
    clear hrd hnone hlen hl
    go_enter Tryz.func49, Tryz.ntmps49
    go_wp2
    go_ret
    exact ⟨_, rfl, World.ownsRow_nil _ _ _ _, Below.refl _ _⟩
  | some x =>
    obtain ⟨i0, hi, hz0, hz1, hz2⟩ := info_parts info_R
    have HI : Hid (Tryz.prog.info? 39 = some i0 ∧ i0.zero = some (.agg #[.int .i32 0, .int .i32 0, .string ⟨#[]⟩]) ∧ i0.size = 3 ∧ i0.bytes = 24) := ⟨hi, hz0, hz1, hz2⟩
    have hown0 : (w.alloc (.cells #[] 39)).ownsRow w.heap.size 39 3 (.slice (some ⟨w.heap.size, 0, none⟩) 0 0) 0 [] := World.ownsRow_made w #[] 0 (Nat.le_refl _) (by simp [maxLen]) rfl
    have HO : Hid ((w.alloc (.cells #[] 39)).ownsRow w.heap.size 39 3 (.slice (some ⟨w.heap.size, 0, none⟩) 0 0) 0 []) := hown0
    have HS : Hid (∀ j u, (flatR rs)[j]? = some u → (w.alloc (.cells #[] 39)).cell? (x.add j) = some u) := by
      intro j u hu
      have hp : 0 < len := by
        rcases Nat.eq_zero_or_pos len with h | h
        · have : rs = [] := List.eq_nil_of_length_eq_zero (by omega)
          rw [this] at hu; simp [flatR] at hu
        · exact h
      obtain ⟨b, off, hb, hc⟩ := hrd.2 hp
      cases hb
      rw [add_lit]
      have := hc j u hu
      rw [World.cell?_alloc_lt _ _ _ (World.block_lt_of_cell? w _ this)]
      exact this
    have HFL : Hid ((flatR rs).length = len * 3) := by show (flatR rs).length = len * 3; rw [flatR_len]; omega
    have HFIN : Hid (∀ v' w', w'.ownsRow w.heap.size 39 3 v' (0 + len) ([] ++ flatR rs) → (w.alloc (.cells #[] 39)).grownBy w' (some w.heap.size) → ∃ v, Ending.returned v' = .returned v ∧ w'.ownsRow w.heap.size 39 3 v len (flatR rs) ∧ Below w.heap.size w w') := by
      intro v' w' h1 h2
      refine ⟨v', rfl, by rw [Nat.zero_add, List.nil_append] at h1; exact h1, ?_⟩
      exact ((Below.refl _ w).alloc (Nat.le_refl _) _).grown h2 (by simp) (fun k hk => by cases hk; exact Nat.le_refl _)
    have HLL : Hid (len ≤ 100000000) := hl
    clear hi hz0 hz1 hz2 hown0 hrd hnone hlen hl
    go_enter Tryz.func49, Tryz.ntmps49
    go_wp2_with (at_builtin; refine wpList_append_own _ rfl _ _ 23 rfl w.heap.size 39 i0 _ 3 24 Tryz.underlying23 HI.out.1 HI.out.2.1 HI.out.2.2.1 HI.out.2.2.2 rfl (by decide) _ 0 [] rfl HO.out x len cap (flatR rs) rfl HFL.out HS.out (flatR_cells rs) (by have := HLL.out; unfold maxLen; omega) (by have := HLL.out; omega) (by simp) (fun v' w' h1 h2 _ => ?_); have HF := HFIN.out v' w' h1 h2; have HFF : Hid _ := HF; clear HF h1 h2)
    go_ret
    exact HFF.out

/-- By first characters. -/
def cfR (x y : Rg) : Int := if x.1 < y.1 then -1 else if y.1 < x.1 then 1 else 0
theorem ltR (x y : Rg) : ltOf cfR x y = decide (x.1 < y.1) := by
  unfold ltOf cfR
  by_cases h1 : x.1 < y.1
  · simp [h1]
  · by_cases h2 : y.1 < x.1 <;> simp [h1, h2]
theorem swoR : Sort.SWO (ltOf cfR) := {
  irrefl := fun x => by rw [ltR]; simp
  trans := fun x y z h1 h2 => by rw [ltR] at *; simp at *; omega
  ntrans := fun x y z h1 h2 => by rw [ltR] at *; simp at *; omega }
set_option maxHeartbeats 1000000 in
theorem compare_any (p q : Int) (w : World) : Calls Tryz.prog 52 #[.int .i32 p, .int .i32 q] w fun e w' => e = .returned (.int .i64 (if p < q then -1 else if q < p then 1 else 0)) ∧ w' = w := by
  obtain ⟨R, hR⟩ : ∃ R : Int, R = if p < q then -1 else if q < p then 1 else 0 := ⟨_, rfl⟩
  rw [← hR]
  by_cases h1 : p < q
  · rw [if_pos h1] at hR
    subst hR
    go_enter Tryz.func52, Tryz.ntmps52
    go_wp2
    go_ret
    exact ⟨rfl, rfl⟩
  · rw [if_neg h1] at hR
    by_cases h2 : q < p
    · rw [if_pos h2] at hR
      subst hR
      go_enter Tryz.func52, Tryz.ntmps52
      go_wp2
      go_ret
      exact ⟨rfl, rfl⟩
    · rw [if_neg h2] at hR
      subst hR
      go_enter Tryz.func52, Tryz.ntmps52
      go_wp2
      go_ret
      exact ⟨rfl, rfl⟩
set_option maxHeartbeats 1000000 in
theorem closure_any (x y : Rg) (w : World) : Calls Tryz.prog 51 #[.agg (encR x).toArray, .agg (encR y).toArray] w fun e w' => e = .returned (.int .i64 (cfR x y)) ∧ ∃ q os', w' = Sort.grow (w.drewN q) os' := by
  obtain ⟨p, q, r⟩ := x
  obtain ⟨p2, q2, r2⟩ := y
  show Calls Tryz.prog 51 #[.agg #[.int .i32 p, .int .i32 q, .string (strOfNums r)], .agg #[.int .i32 p2, .int .i32 q2, .string (strOfNums r2)]] w _
  have HC : Hid (∀ W : World, Calls Tryz.prog 52 #[.int .i32 p, .int .i32 p2] W fun e w' => e = .returned (.int .i64 (cfR (p, q, r) (p2, q2, r2))) ∧ w' = W) := fun W => compare_any p p2 W
  generalize cfR (p, q, r) (p2, q2, r2) = R at HC ⊢
  generalize strOfNums r = t
  generalize strOfNums r2 = t2
  go_enter Tryz.func51, Tryz.ntmps51
  go_wp2_with (first | (go_at_call 52; refine (HC.out _).mono ?_; rintro e w' ⟨rfl, rfl⟩))
  go_ret
  exact ⟨rfl, 0, _, by rw [Sort.alloc_eq_grow, Sort.alloc_eq_grow, Sort.grow_grow]; rfl⟩
theorem flatK_R (ds : List Rg) (j : Nat) (hj : j < 3 * ds.length) : (flatR ds)[j]? = some ((Sort.flatK encR 3 ds.toArray)[j]!) := by
  rw [Sort.get_flatK encR 3 _ j (by simp; omega)]
  have h1 := flatR_at ds (j / 3) (by omega) (j % 3) (Nat.mod_lt _ (by decide))
  rw [show 3 * (j / 3) + j % 3 = j by omega] at h1
  rw [h1]
  have e : (ds.toArray)[j / 3]! = ds.getD (j / 3) (0, 0, []) := by
    simp [show j / 3 < ds.length by omega]
  rw [e]
  obtain ⟨p, q, r⟩ := ds.getD (j / 3) (0, 0, [])
  rcases (show j % 3 = 0 ∨ j % 3 = 1 ∨ j % 3 = 2 by omega) with h | h | h <;> rw [h] <;> rfl
theorem holds_R {w : World} {g off : Nat} {ds : List Rg} (hc : ∀ j v, (flatR ds)[j]? = some v → w.cell? ⟨g, off + j, none⟩ = some v) (hf : ∀ j, w.frozen? ⟨g, j, none⟩ = false) : Sort.HoldsK encR 3 w g off ds.toArray := by
  intro j hj
  simp at hj
  exact ⟨hc j _ (flatK_R ds j (by omega)), hf _⟩
theorem rd_holds {w : World} {g off : Nat} {ds : List Rg} (h : Sort.HoldsK encR 3 w g off ds.toArray) : RdR w (some ⟨g, off, none⟩) ds.length ds := by
  refine ⟨rfl, fun hp => ⟨g, off, rfl, fun j v hv => ?_⟩⟩
  have hj : j < 3 * ds.length := by
    rw [← flatR_len]
    rcases Nat.lt_or_ge j (flatR ds).length with h' | h'
    · exact h'
    · rw [List.getElem?_eq_none h'] at hv; cases hv
  have h1 := (h j (by simp; omega)).1
  rw [flatK_R ds j hj] at hv
  cases hv
  exact h1
theorem below_sort (w : World) (g off n B : Nat) (d : Array Rg) (os : Array Obj) (hB : B ≤ g) (hg : g < w.heap.size) : Below B w (sortWorldK encR 3 w g off n d os) := by
  refine ⟨rfl, rfl, rfl, ?_, fun k hk => ?_⟩
  · show w.heap.size ≤ (w.heap.modify g _ ++ os).size
    simp
  · show (w.heap.modify g _ ++ os)[k]? = w.heap[k]?
    rw [Array.getElem?_append_left (by simp; omega), Array.getElem?_modify, if_neg (by omega)]

set_option maxHeartbeats 1000000 in
theorem sort_any (rs : List Rg) (B : Nat) (v : Value) (w : World) (hown : w.ownsRow B 39 3 v rs.length (flatR rs)) (hB : B ≤ w.heap.size) (hl : rs.length ≤ 100000000) :
    Calls Tryz.prog 50 #[v, .func (.func 51) #[] #[]] w fun e w' => e = .returned (.tuple #[]) ∧ Below B w w' ∧ ∃ a cap ds, v = .slice a rs.length cap ∧ RdR w' a rs.length ds ∧ ds.Perm rs ∧ ∀ i j, i < j → j < ds.length → (ds.getD i (0, 0, [])).1 ≤ (ds.getD j (0, 0, [])).1 := by
  by_cases h0 : rs = []
  · subst h0
    obtain ⟨a, cap, rfl, _, _, hrd⟩ := own_rdR hown
    refine (AnyF.slices_SortFunc_none Tryz.sortR a cap _ w).mono ?_
    rintro e w' ⟨rfl, rfl⟩
    exact ⟨rfl, Below.refl _ _, a, cap, [], rfl, hrd, List.Perm.refl _, fun i j _ hj => by simp at hj⟩
  · rcases hown.2 with ⟨rfl, hn⟩ | ⟨g, cap, cur, rfl, hbg, hg, hnc, hm, hs, ht⟩
    · exact absurd (List.eq_nil_of_length_eq_zero hn) h0
    · have hgw : g < w.heap.size := (Array.getElem?_eq_some_iff.1 hg).1
      have hH : Sort.HoldsK encR 3 w g 0 rs.toArray := holds_R (fun j u hu => by
        rw [Nat.zero_add, cell_of_row w g j _ _ _ hg]
        rw [← ht, List.getElem?_take] at hu
        split at hu
        · simpa using hu
        · cases hu) (fun j => Lib.frozen_of_heap hg j)
      have hcon : Calls Tryz.prog 50 #[.slice (some ⟨g, 0, none⟩) rs.toArray.size cap, .func (.func 51) #[] #[]] w _ :=
        AnyQ.slices_SortFunc Tryz.sortR 3 Tryz.isAgg39 Tryz.sizeOf39 encR (fun _ => rfl) flatR_one' cfR swoR 51 #[] g 0 cap rs.toArray w (enters_of Tryz.func51 (by kernel_rfl) rfl) (fun _ _ _ _ x y => closure_any x y _) hH hgw (by simp; omega)
      rw [show rs.toArray.size = rs.length by simp] at hcon
      refine hcon.mono ?_
      rintro e w' ⟨rfl, d', n, os, ⟨p1, _, p3⟩, hso, rfl⟩
      have hsz : d'.size = rs.length := by rw [p1]; simp
      have hd : d' = d'.toList.toArray := by simp
      refine ⟨rfl, below_sort w g 0 n B d' os hbg hgw, some ⟨g, 0, none⟩, cap, d'.toList, rfl, ?_, ?_, ?_⟩
      · have := holdsK_sortWorldK_c encR 3 w g 0 rs.toArray d' n os hH hgw (by rw [p1])
        rw [hd] at this
        have h2 := rd_holds this
        rw [← hd] at h2
        simpa [hsz] using h2
      · have e1 : (d'.extract 0 rs.length).toList = d'.toList := by rw [← hsz]; simp
        have e2 : ((rs.toArray).extract 0 rs.length).toList = rs := by simp
        rw [e1, e2] at p3
        exact p3
      · intro i j hij hj
        have hj' : j < d'.size := by simpa using hj
        have h3 := hso i j (by omega) hij (by rw [← hsz]; exact hj')
        rw [ltR, decide_eq_false_iff_not] at h3
        have e1 : d'[i]! = d'.toList.getD i (0, 0, []) := by simp [show i < d'.size by omega]
        have e2 : d'[j]! = d'.toList.getD j (0, 0, []) := by simp [hj']
        rw [e1, e2] at h3
        omega
end Go.Proofs.YtgncpchgmjacdaaGreatDoor
