/- The walks of the library's Clone of entries, and of With. -/
import Derived.Test.YtfagmcgcdlboiaaIdI
import Derived.Deep.DeepCutAuto
namespace Go.Proofs.Ytfagmcgcdlboiaa
open Go.RowKit Go.Sort
set_option linter.unusedVariables false

set_option maxHeartbeats 1000000 in
theorem clone_any (rs : List (Int × Int)) (a : Option Addr) (len cap : Nat) (w : World) (hrd : RdE w a len rs) (hnone : a = none → cap = 0) (hl : len ≤ 100000000) :
    Calls Try.prog 40 #[.slice a len cap] w fun e w' => ∃ v, e = .returned v ∧ w'.ownsRow w.heap.size 47 2 v len (flatE rs) ∧ Below w.heap.size w w' := by
  have hlen := hrd.1
  have q22 : ∀ (w : World) (a : Option Addr) (n c n' c' : Nat), (binOp .eql 34 (.slice a n c) (.slice none n' c')).run Try.prog w = .ok (.bool a.isNone) w := fun w a n c n' c' => Lib.run_eql_slice_nil w _ _ a n c n' c' Try.underlying34
  cases a with
  | none =>
    have h0 : len = 0 := by
      rcases Nat.eq_zero_or_pos len with h | h
      · exact h
      · obtain ⟨b, off, hb, _⟩ := hrd.2 h; cases hb
    have hr : rs = [] := List.eq_nil_of_length_eq_zero (by omega)
    have hc0 := hnone rfl
    subst h0 hr hc0
    clear hrd hnone hlen hl
    go_enter Try.func40, Try.ntmps40
    go_wp2
    go_ret
    exact ⟨_, rfl, World.ownsRow_nil _ _ _ _, Below.refl _ _⟩
  | some x =>
    obtain ⟨i0, hi, hz0, hz1, hz2⟩ := info_parts info_E
    have HI : Hid (Try.prog.info? 47 = some i0 ∧ i0.zero = some (.agg #[.int .i64 0, .int .i64 0]) ∧ i0.size = 2 ∧ i0.bytes = 16) := ⟨hi, hz0, hz1, hz2⟩
    have hown0 : (w.alloc (.cells #[] 47)).ownsRow w.heap.size 47 2 (.slice (some ⟨w.heap.size, 0, none⟩) 0 0) 0 [] := World.ownsRow_made w #[] 0 (Nat.le_refl _) (by simp [maxLen]) rfl
    have HO : Hid ((w.alloc (.cells #[] 47)).ownsRow w.heap.size 47 2 (.slice (some ⟨w.heap.size, 0, none⟩) 0 0) 0 []) := hown0
    have HS : Hid (∀ j u, (flatE rs)[j]? = some u → (w.alloc (.cells #[] 47)).cell? (x.add j) = some u) := by
      intro j u hu
      have hp : 0 < len := by
        rcases Nat.eq_zero_or_pos len with h | h
        · have : rs = [] := List.eq_nil_of_length_eq_zero (by omega)
          rw [this] at hu; simp [flatE] at hu
        · exact h
      obtain ⟨b, off, hb, hc⟩ := hrd.2 hp
      cases hb
      rw [add_lit]
      have := hc j u hu
      rw [World.cell?_alloc_lt _ _ _ (World.block_lt_of_cell? w _ this)]
      exact this
    have HFL : Hid ((flatE rs).length = len * 2) := by show (flatE rs).length = len * 2; rw [flatE_len]; omega
    have HFIN : Hid (∀ v' w', w'.ownsRow w.heap.size 47 2 v' (0 + len) ([] ++ flatE rs) → (w.alloc (.cells #[] 47)).grownBy w' (some w.heap.size) → ∃ v, Ending.returned v' = .returned v ∧ w'.ownsRow w.heap.size 47 2 v len (flatE rs) ∧ Below w.heap.size w w') := by
      intro v' w' h1 h2
      refine ⟨v', rfl, by rw [Nat.zero_add, List.nil_append] at h1; exact h1, ?_⟩
      exact ((Below.refl _ w).alloc (Nat.le_refl _) _).grown h2 (by simp) (fun k hk => by cases hk; exact Nat.le_refl _)
    have HLL : Hid (len ≤ 100000000) := hl
    clear hi hz0 hz1 hz2 hown0 hrd hnone hlen hl
    go_enter Try.func40, Try.ntmps40
    go_wp2_with (at_builtin; refine wpList_append_own _ rfl _ _ 34 rfl w.heap.size 47 i0 _ 2 16 Try.underlying34 HI.out.1 HI.out.2.1 HI.out.2.2.1 HI.out.2.2.2 rfl (by decide) _ 0 [] rfl HO.out x len cap (flatE rs) rfl HFL.out HS.out (flatE_cells rs) (by have := HLL.out; unfold maxLen; omega) (by have := HLL.out; omega) (by simp) (fun v' w' h1 h2 _ => ?_); have HF := HFIN.out v' w' h1 h2; have HFF : Hid _ := HF; clear HF h1 h2)
    go_ret
    exact HFF.out

theorem own_gen {w w' : World} {B : Nat} {e : TypeId} {size : Nat} {v : Value} {n : Nat} {xs : List Value} (h : w.ownsRow B e size v n xs) (hb : Below w.heap.size w w') : w'.ownsRow B e size v n xs :=
  h.kept (row := none) ⟨hb.os, hb.tape, hb.output, hb.size, fun k hk _ => hb.block k hk⟩ (Classical.em _)
theorem rdE_own {w : World} {B : Nat} {e : TypeId} {v : Value} {n : Nat} {rs : List (Int × Int)} (h : w.ownsRow B e 2 v n (flatE rs)) :
    ∃ a cap, v = .slice a n cap ∧ n ≤ cap ∧ cap ≤ 9223372036854775807 ∧ RdE w a n rs ∧ (a = none → cap = 0) := by
  have hl : rs.length = n := by have := h.1; rw [flatE_len] at this; omega
  rcases h.2 with ⟨rfl, rfl⟩ | ⟨g, cap, cur, rfl, hb, hg, hn, hm, hs, ht⟩
  · exact ⟨none, 0, rfl, by omega, by omega, ⟨hl, fun hp => absurd hp (by omega)⟩, fun _ => rfl⟩
  · refine ⟨_, cap, rfl, hn, by simpa [maxLen] using hm, ⟨hl, fun hp => ⟨g, 0, rfl, fun j u hu => ?_⟩⟩, fun h => by cases h⟩
    rw [Nat.zero_add, cell_of_row w g j cur e (0, 0) hg]
    rw [← ht, List.getElem?_take] at hu
    split at hu
    · simpa using hu
    · cases hu
theorem flatE_set : (v : List (Int × Int)) → (i : Nat) → i < v.length → ∀ m, flatE (v.set i ((v.getD i (0, 0)).1, m)) = (flatE v).set (2 * i + 1) (.int .i64 m)
  | [], i, h, _ => by simp at h
  | x :: r, 0, _, m => rfl
  | x :: r, i + 1, h, m => by
    have ih := flatE_set r i (by simpa using h) m
    rw [List.set_cons_succ, flatE_one, flatE_one, show 2 * (i + 1) + 1 = (2 * i + 1) + 2 by omega]
    have e : ((x :: r).getD (i + 1) (0, 0)) = r.getD i (0, 0) := by simp
    rw [e, ih]
    rfl
theorem own_set {w : World} {B g n cap : Nat} {e : TypeId} {v : List (Int × Int)} (h : w.ownsRow B e 2 (.slice (some ⟨g, 0, none⟩) n cap) n (flatE v)) (i : Nat) (hi : i < n) (m : Int) :
    (w.setCell ⟨g, i * 2 + 1, none⟩ (.int .i64 m)).ownsRow B e 2 (.slice (some ⟨g, 0, none⟩) n cap) n (flatE (v.set i ((v.getD i (0, 0)).1, m))) := by
  have hl : v.length = n := by have := h.1; rw [flatE_len] at this; omega
  rcases h.2 with ⟨h0, _⟩ | ⟨g', cap', cur, hv, hb, hg, hn, hm, hs, ht⟩
  · cases h0
  · cases hv
    refine ⟨by rw [flatE_len]; simp; omega, .inr ⟨g, cap, _, rfl, hb, heap_setCell w g (i * 2 + 1) _ cur e (0, 0) hg, hn, hm, by simpa using hs, ?_⟩⟩
    rw [flatE_set v i (by omega) m, ← ht, show i * 2 + 1 = 2 * i + 1 by omega]
    simp [List.take_set]
theorem own_at {w : World} {B n cap : Nat} {a : Option Addr} {e : TypeId} {v : List (Int × Int)} (h : w.ownsRow B e 2 (.slice a n cap) n (flatE v)) (i : Nat) (hi : i < n) :
    ∃ g, a = some ⟨g, 0, none⟩ ∧ w.cell? ⟨g, i * 2, none⟩ = some (.int .i64 (v.getD i (0, 0)).1) ∧ w.cell? ⟨g, i * 2 + 1, none⟩ = some (.int .i64 (v.getD i (0, 0)).2) ∧ w.frozen? ⟨g, i * 2 + 1, none⟩ = false ∧ B ≤ g := by
  obtain ⟨a', cap', hv, _, _, hr, _⟩ := rdE_own h
  cases hv
  rcases h.2 with ⟨h0, h1⟩ | ⟨g', cap', cur, hv, hb, hg, hn, hm, hs, ht⟩
  · omega
  · cases hv
    obtain ⟨b, off, hab, c0, c1⟩ := hr.at i hi
    cases hab
    simp only [Nat.zero_add] at c0 c1
    exact ⟨g', rfl, c0, c1, Lib.frozen_of_heap hg _, hb⟩
theorem max_run (x y : Int) (W : World) : (Builtin.max_ #[3, 3] 3 #[.int .i64 x, .int .i64 y]).run Try.prog W = .ok (.int .i64 (max x y)) W := by
  rw [run_max_int2]
  congr 2
  split <;> omega
/-- What With leaves: a row of the call's own. -/
def RowP (rs : List (Int × Int)) (w : World) (e : Ending) (w' : World) : Prop :=
  ∃ v, e = .returned v ∧ w'.ownsRow w.heap.size 47 2 v rs.length (flatE rs) ∧ Below w.heap.size w w'
set_option maxHeartbeats 1000000 in
theorem with_any (v : List (Int × Int)) (q s : Int) (a : Option Addr) (len cap : Nat) (w : World) (hV : Vec v) (hrd : RdE w a len v) (hnone : a = none → cap = 0) (hl : len ≤ 100000) :
    Calls Try.prog 21 #[.slice a len cap, .int .i64 q, .int .i64 s] w (RowP (withL v q s) w) := by
  have hlen := hrd.1
  have HCL : Hid (Calls Try.prog 40 #[.slice a len cap] w fun e w' => ∃ a1 c1, e = .returned (.slice a1 len c1) ∧ len ≤ c1 ∧ c1 ≤ 9223372036854775807 ∧ RdE w' a1 len v ∧ w'.ownsRow w.heap.size 47 2 (.slice a1 len c1) len (flatE v) ∧ Below w.heap.size w w') := by
    refine (clone_any v a len cap w hrd hnone (by omega)).mono ?_
    rintro e w1 ⟨x, rfl, ho, hb⟩
    obtain ⟨a1, c1, rfl, h1, h2, h3, _⟩ := rdE_own ho
    exact ⟨a1, c1, rfl, h1, h2, h3, ho, hb⟩
  have HFN : Hid (∀ W a1 c1, RdE W a1 len v → Calls Try.prog 41 #[.slice a1 len c1, .int .i64 q] W fun e w' => ∃ i : Nat, i ≤ len ∧ BsE v q i i ∧ e = .returned (.tuple #[.int .i64 i, .bool (fnE v q i)]) ∧ Gw W w') := by
    intro W a1 c1 h
    have := find_any v q a1 len c1 W hV.1 h (by omega)
    rw [hlen] at this
    exact this
  have HV : Hid (Vec v) := hV
  have HLV : Hid (v.length = len) := hlen
  have HLL : Hid (len ≤ 100000) := hl
  clear hV hrd hnone hlen hl
  go_enter Try.func21, Try.ntmps21
  go_upto_region 2 with (first | (go_at_call 40; refine HCL.out.mono ?_; rintro e w1 ⟨a1, c1, rfl, hc1, hc2, hr1, ho1, hb1⟩; have HR1 : Hid (RdE w1 a1 len v) := hr1; have HO1 : Hid (w1.ownsRow w.heap.size 47 2 (.slice a1 len c1) len (flatE v)) := ho1; have HB1 : Hid (Below w.heap.size w w1) := hb1; clear hr1 ho1 hb1))
  go_upto_region 3 with (first | (go_at_call 41; refine (HFN.out _ _ _ HR1.out).mono ?_; rintro e w2 ⟨i, hi, hbs, rfl, hg⟩; have HBS : Hid (BsE v q i i) := hbs; have HG : Hid (Gw w1 w2) := hg; clear hg hbs))
  have HO2 : Hid (w2.ownsRow w.heap.size 47 2 (.slice a1 len c1) len (flatE v)) := own_gen HO1.out HG.out.below
  have HB2 : Hid (Below w.heap.size w w2) := HB1.out.trans (HG.out.below.mono HB1.out.size)
  obtain ⟨q1, q2⟩ := fnE_sq v q i HV.out.1 HBS.out
  cases hf : fnE v q i
  · have hno := q2 hf
    have HNO : Hid ((∀ k, k < i → (v.getD k (0, 0)).1 < q) ∧ (∀ k, i ≤ k → k < v.length → q < (v.getD k (0, 0)).1) ∧ sqL v q = 0) := hno
    clear hno q1 q2 hf HFN HCL
    by_cases hs : 0 < s
    · have HFIN : Hid (∀ e w3, InsPost w.heap.size (v.take i ++ (q, s) :: v.drop i) (.slice a1 len c1) (w2.alloc (.cells #[.int .i64 q, .int .i64 s] 47)) e w3 → RowP (withL v q s) w e w3) := by
        rintro e w3 ⟨x, rfl, ho, hg⟩
        rw [with_put v q s HV.out i (by rw [HLV.out]; exact hi) hs HNO.out.1 HNO.out.2.1] at ho
        refine ⟨x, rfl, ho, (HB2.out.alloc HB2.out.size _).grown hg (by simp; have := HB2.out.size; omega) (fun k hk => (HO2.out.lt k hk).1)⟩
      have HIN : Hid (Calls Try.prog 42 #[.slice a1 len c1, .int .i64 i, .slice (some ⟨w2.heap.size, 0, none⟩) 1 1] (w2.alloc (.cells #[.int .i64 q, .int .i64 s] 47)) (InsPost w.heap.size (v.take i ++ (q, s) :: v.drop i) (.slice a1 len c1) (w2.alloc (.cells #[.int .i64 q, .int .i64 s] 47)))) := by
        refine insert_any v (q, s) w.heap.size (.slice a1 len c1) w2.heap.size i _ ?_ ?_ (by rw [HLV.out]; exact hi) (heap_alloc_new w2 _) ?_ (by have := HLV.out; have := HLL.out; omega)
        · rw [HLV.out]
          exact own_gen HO2.out ((Below.refl _ w2).alloc (Nat.le_refl _) _)
        · simp; have := HB2.out.size; omega
        · intro h
          have := (HO2.out.lt _ h).2
          omega
      go_wp2_with (first | (go_at_call 42; refine HIN.out.mono ?_; intro e w3 hh; obtain ⟨x, rfl, ho, hg⟩ := hh; have HX : Hid (RowP (withL v q s) w (.returned x) w3) := HFIN.out _ _ ⟨x, rfl, ho, hg⟩; clear ho hg))
      go_ret
      exact HX.out
    · have HFIN : Hid (RowP (withL v q s) w (.returned (.slice a1 len c1)) w2) := by
        rw [← with_none v q s HV.out (by omega)]
        exact ⟨_, rfl, by rw [HLV.out]; exact HO2.out, HB2.out⟩
      go_wp2
      go_ret
      exact HFIN.out
  · obtain ⟨hil, hga, _⟩ := q1 hf
    have hil' : i < len := by rw [← HLV.out]; exact hil
    obtain ⟨g, hg1, c0, cc1, fz, hbg⟩ := own_at HO2.out i hil'
    subst hg1
    have HFIN : Hid (RowP (withL v q s) w (.returned (.slice (some ⟨g, 0, none⟩) len c1)) (w2.setCell ⟨g, i * 2 + 1, none⟩ (.int .i64 (max (v.getD i (0, 0)).2 s)))) := by
      refine ⟨_, rfl, ?_, HB2.out.setCell hbg _⟩
      have h1 := own_set HO2.out i hil' (max (v.getD i (0, 0)).2 s)
      rw [hga, with_found v q s HV.out i hil hga] at h1
      have h2 : (withL v q s).length = len := by have := h1.1; rw [flatE_len] at this; omega
      rw [h2]
      exact h1
    have hmx := max_run (v.getD i (0, 0)).2 s
    clear q1 q2 hf hga hil hbg
    generalize (v.getD i (0, 0)).2 = y at cc1 hmx HFIN
    generalize max y s = m at hmx HFIN
    go_wp2
    go_ret
    exact HFIN.out
end Go.Proofs.Ytfagmcgcdlboiaa
