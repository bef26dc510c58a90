/- Nodes as they are handed in; append to a row of marked expressions, wherever it lies; the walk of fitsEmpty. -/
import Derived.Test.YtjbhfonokgkalaaReaE
import Derived.Test.YtjbhfonokgkalaaReaS
import Derived.Deep.RegionHeld3
namespace Go.Proofs.Ytjbhfonokgkalaa
open Go.RowKit
set_option linter.unusedVariables false

/-- A node in memory, no deeper than that; its classes lie below B. -/
def InV (B : Nat) (w : World) : Nat → Nd → List Value → Prop
  | 0, _, _ => False
  | d + 1, n, vs => ∃ ca cc pa pc, vs = [.int .i64 n.op, .slice ca n.cl.length cc, .slice pa (toL n.kids).length pc] ∧ Rd .i64 w ca n.cl.length n.cl ∧ (0 < n.cl.length → ∀ x, ca = some x → x.block < B) ∧ n.cl.length ≤ 140737488355328 ∧ (toL n.kids).length ≤ 2600000000000 ∧
      (0 < (toL n.kids).length → ∃ b off, pa = some ⟨b, off, none⟩ ∧ ∀ i (hi : i < (toL n.kids).length), ∃ us, InV B w d (toL n.kids)[i] us ∧ ∀ j v, us[j]? = some v → w.cell? ⟨b, off + i * 3 + j, none⟩ = some v)
theorem InV.later {B : Nat} {w w' : World} (hb : Below w.heap.size w w') : (d : Nat) → {n : Nd} → {vs : List Value} → InV B w d n vs → InV B w' d n vs
  | 0, _, _, h => h.elim
  | d + 1, n, vs, h => by
    obtain ⟨ca, cc, pa, pc, h1, h2, h3, h4, h5, h6⟩ := h
    refine ⟨ca, cc, pa, pc, h1, h2.later hb, h3, h4, h5, fun hp => ?_⟩
    obtain ⟨b, off, e, hk⟩ := h6 hp
    refine ⟨b, off, e, fun i hi => ?_⟩
    obtain ⟨us, k1, k2⟩ := hk i hi
    exact ⟨us, k1.later hb d, fun j v hv => (hb.cell (World.block_lt_of_cell? w _ (k2 j v hv))).trans (k2 j v hv)⟩
theorem InV.base {B B' : Nat} {w : World} (hB : B ≤ B') : (d : Nat) → {n : Nd} → {vs : List Value} → InV B w d n vs → InV B' w d n vs
  | 0, _, _, h => h.elim
  | d + 1, n, vs, h => by
    obtain ⟨ca, cc, pa, pc, h1, h2, h3, h4, h5, h6⟩ := h
    refine ⟨ca, cc, pa, pc, h1, h2, fun hp x hx => Nat.lt_of_lt_of_le (h3 hp x hx) hB, h4, h5, fun hp => ?_⟩
    obtain ⟨b, off, e, hk⟩ := h6 hp
    refine ⟨b, off, e, fun i hi => ?_⟩
    obtain ⟨us, k1, k2⟩ := hk i hi
    exact ⟨us, k1.base hB d, k2⟩
theorem InV.deep {B : Nat} {w : World} : (d : Nat) → {n : Nd} → {vs : List Value} → InV B w d n vs → InV B w (d + 1) n vs
  | 0, _, _, h => h.elim
  | d + 1, n, vs, h => by
    obtain ⟨ca, cc, pa, pc, h1, h2, h3, h4, h5, h6⟩ := h
    refine ⟨ca, cc, pa, pc, h1, h2, h3, h4, h5, fun hp => ?_⟩
    obtain ⟨b, off, e, hk⟩ := h6 hp
    refine ⟨b, off, e, fun i hi => ?_⟩
    obtain ⟨us, k1, k2⟩ := hk i hi
    exact ⟨us, k1.deep d, k2⟩

/-- append onto a row of the call's own, where it then lies; more room than the plain law. -/
theorem run_append_wide {P : Program} (w : World) (t ty : TypeId) (base : Nat) (e : TypeId) (i : TypeInfo) (z : Value) (size bytes : Nat) (ht : P.underlying t = some (.slice e)) (hi : P.info? e = some i) (hz : i.zero = some z)
    (hsize : i.size = size) (hby : i.bytes = bytes) (hzs : z.cells.size = size) (hsz : 0 < size)
    (v : Value) (n : Nat) (xs : List Value) (hown : w.ownsRow base e size v n xs)
    (ad : Addr) (m c : Nat) (news : List Value) (hl : news.length = m * size) (hnews : ∀ j u, news[j]? = some u → w.cell? (ad.add j) = some u) (h1 : ∀ u ∈ news, u.oneCell' = true)
    (hm : 0 < m) (h63 : n + m ≤ maxLen) (hbytes : ((n + m) + (n + m) / 4 + 192) * bytes ≤ 281474976710656) (hbase : base ≤ w.heap.size) :
    ∃ g cap w', (Builtin.append_ #[t, t] ty #[v, .slice (some ad) m c]).run P w = .ok (.slice (some ⟨g, 0, none⟩) (n + m) cap) w' ∧
      w'.ownsRow base e size (.slice (some ⟨g, 0, none⟩) (n + m) cap) (n + m) (xs ++ news) ∧ w.grownBy w' v.ownBlock ∧ (v.ownBlock = some g ∨ g = w.heap.size) ∧ g < w'.heap.size := by
  obtain ⟨v', w', hr, h2, h3, _⟩ := run_append_own_wide (P := P) w base t ty e i z size bytes ht hi hz hsize hby hzs hsz v n xs hown ad m c news hl hnews h1 h63 hbytes hbase
  obtain ⟨g, cap, rfl, _, hlt⟩ := h2.form (by omega)
  refine ⟨g, cap, w', hr, h2, h3, ?_, hlt⟩
  have hsm : n + m ≤ 9223372036854775807 := by simpa [maxLen] using h63
  rcases hown.2 with ⟨rfl, rfl⟩ | ⟨g0, cap0, cur, rfl, hbg, hg, hnc, hcm, hcs, htake⟩
  · have hr2 := run_append_nil (P := P) w t ty e i z ht hi hz ad m c news (by rw [hsize]; exact hl) hnews hm (by omega) (by rw [hby]; simp only [Nat.zero_add] at hbytes; exact Nat.le_trans (Nat.mul_le_mul_right _ (by omega)) hbytes)
    rw [hr2] at hr
    simp only [Result.ok.injEq, Value.slice.injEq, Option.some.injEq, Addr.mk.injEq] at hr
    exact .inr hr.1.1.1.symm
  · by_cases hroom : n + m ≤ cap0
    · have hr2 := run_append_room (P := P) w t ty e i ht hi g0 n cap0 cur hg ad m c news (by rw [hsize]; exact hl) hnews h1 hroom (by rw [hl, hcs, hsize, ← Nat.add_mul]; exact Nat.mul_le_mul_right _ hroom)
      rw [hr2] at hr
      simp only [Result.ok.injEq, Value.slice.injEq, Option.some.injEq, Addr.mk.injEq] at hr
      exact .inl (by rw [← hr.1.1.1]; rfl)
    · have hr2 := run_append_grow (P := P) w t ty e i z ht hi hz ⟨g0, 0, none⟩ n cap0 xs (by rw [hsize]; exact hown.1) (hown.cells (g := g0) rfl) ad m c news (by rw [hsize]; exact hl) hnews (by omega) (by omega) (by rw [hby]; exact growslice_fits_wide (by omega) hbytes)
      rw [hr2] at hr
      simp only [Result.ok.injEq, Value.slice.injEq, Option.some.injEq, Addr.mk.injEq] at hr
      exact .inr hr.1.1.1.symm
theorem wp_append_wide {P : Program} (w : World) {o : Oper} {a : Act} {K : Act → World → Prop} {Q : Exit → Act → World → Prop} (s x : Operand) (t : TypeId)
    (ho : o.op = .call { callee := .builtin .append, args := #[s, x], argTypes := #[t, t] })
    (base : Nat) (e : TypeId) (i : TypeInfo) (z : Value) (size bytes : Nat) (ht : P.underlying t = some (.slice e)) (hi : P.info? e = some i) (hz : i.zero = some z)
    (hsize : i.size = size) (hby : i.bytes = bytes) (hzs : z.cells.size = size) (hsz : 0 < size)
    (v : Value) (n : Nat) (xs : List Value) (hs : a.eval s = v) (hown : w.ownsRow base e size v n xs)
    (ad : Addr) (m c : Nat) (news : List Value) (hx : a.eval x = .slice (some ad) m c) (hl : news.length = m * size) (hnews : ∀ j u, news[j]? = some u → w.cell? (ad.add j) = some u) (h1 : ∀ u ∈ news, u.oneCell' = true)
    (hm : 0 < m) (h63 : n + m ≤ maxLen) (hbytes : ((n + m) + (n + m) / 4 + 192) * bytes ≤ 281474976710656) (hbase : base ≤ w.heap.size)
    (h : ∀ g cap w', w'.ownsRow base e size (.slice (some ⟨g, 0, none⟩) (n + m) cap) (n + m) (xs ++ news) → w.grownBy w' v.ownBlock → (v.ownBlock = some g ∨ g = w.heap.size) → g < w'.heap.size → K (a.put o.dst (.slice (some ⟨g, 0, none⟩) (n + m) cap)) w') : o.wp P a w K Q := by
  obtain ⟨g, cap, w', hr, h2, h3, h4, h5⟩ := run_append_wide (P := P) w t o.type base e i z size bytes ht hi hz hsize hby hzs hsz v n xs hown ad m c news hl hnews h1 hm h63 hbytes hbase
  unfold Oper.wp execOp
  simp only [ho, resolve, invoke, builtin, Sem.run_bind, Sem.run_pure, Result.andThen_ok, List.map_toArray, List.map_cons, List.map_nil, hs, hx, hr]
  exact h g cap w' h2 h3 h4 h5
theorem step_append_wide {P : Program} (w : World) {ops : Array Oper} {o : Oper} {a : Act} {K : Act → World → Prop} {Q : Exit → Act → World → Prop} {E : Prop} (hgd : o.guard = none) (s x : Operand) (t : TypeId)
    (ho : o.op = .call { callee := .builtin .append, args := #[s, x], argTypes := #[t, t] })
    (base : Nat) (e : TypeId) (i : TypeInfo) (z : Value) (size bytes : Nat) (ht : P.underlying t = some (.slice e)) (hi : P.info? e = some i) (hz : i.zero = some z)
    (hsize : i.size = size) (hby : i.bytes = bytes) (hzs : z.cells.size = size) (hsz : 0 < size)
    (v : Value) (n : Nat) (xs : List Value) (hs : a.eval s = v) (hown : w.ownsRow base e size v n xs)
    (ad : Addr) (m c : Nat) (news : List Value) (hx : a.eval x = .slice (some ad) m c) (hl : news.length = m * size) (hnews : ∀ j u, news[j]? = some u → w.cell? (ad.add j) = some u) (h1 : ∀ u ∈ news, u.oneCell' = true)
    (hm : 0 < m) (h63 : n + m ≤ maxLen) (hbytes : ((n + m) + (n + m) / 4 + 192) * bytes ≤ 281474976710656) (hbase : base ≤ w.heap.size)
    (h : ∀ g cap w', w'.ownsRow base e size (.slice (some ⟨g, 0, none⟩) (n + m) cap) (n + m) (xs ++ news) → w.grownBy w' v.ownBlock → (v.ownBlock = some g ∨ g = w.heap.size) → g < w'.heap.size → K (a.put o.dst (.slice (some ⟨g, 0, none⟩) (n + m) cap)) w') :
    if Region.wanted o (yielded ops a.tmps) = true then Oper.wp P o a w K Q else E := by
  have hw : Region.wanted o (yielded ops a.tmps) = true := by simp [Region.wanted, hgd]
  rw [if_pos hw]
  exact wp_append_wide w s x t ho base e i z size bytes ht hi hz hsize hby hzs hsz v n xs hs hown ad m c news hx hl hnews h1 hm h63 hbytes hbase h

/-- What fitsEmpty tells. -/
def empF (op : Int) (es : List Bool) : Bool :=
  if op = 0 then true else if op = 2 then !(es.any notB) else if op = 3 then es.any idB else if op = 4 ∨ op = 5 then decide (es.length = 1) else false
theorem empF_den (op : Int) (l : List Nd) : nodeM op (den (ofL l)) = empF op (l.map Nd.emp) := by
  have hd : den (ofL l) = l.map fun n => (n.emp, n.end) := by rw [den_map, toL_ofL]
  unfold nodeM empF
  rw [hd]
  have h1 : (l.map fun n => (n.emp, n.end)).all (fun k => k.1) = !((l.map Nd.emp).any notB) := by
    induction l with
    | nil => rfl
    | cons x r ih => simp only [List.map_cons, List.all_cons, List.any_cons, Bool.not_or, ih (by rw [den_map, toL_ofL])]; simp [notB]
  have h2 : (l.map fun n => (n.emp, n.end)).any (fun k => k.1) = (l.map Nd.emp).any idB := by
    induction l with
    | nil => rfl
    | cons x r ih =>
      have := ih (by rw [den_map, toL_ofL])
      simp only [List.map_cons, List.any_cons]
      congr 1
      simp only [List.any_map] at this ⊢
      rfl
  rw [h1, h2]
  simp
set_option maxHeartbeats 2000000 in
theorem fitsEmpty_any (op : Int) (b off : Nat) (pa : Option Addr) (N pc : Nat) (es : List Bool) (w : World) (c0 : w.cell? ⟨b, off, none⟩ = some (.int .i64 op)) (c2 : w.cell? ⟨b, off + 2, none⟩ = some (.slice pa N pc)) (hrd : RdK w pa N es) (hN : N ≤ 9223372036854775806) :
    Calls Try.prog 87 #[.pointer (some ⟨b, off, none⟩)] w fun e w' => e = .returned (.bool (empF op es)) ∧ Below w.heap.size w w' := by
  have HC1 : Hid (Calls Try.prog 88 #[.slice pa N pc, .func (.func 89) #[] #[]] w fun e w' => e = .returned (.bool (es.any notB)) ∧ Below w.heap.size w w') := containsK1_any es pa N pc w hrd hN
  have HC2 : Hid (Calls Try.prog 88 #[.slice pa N pc, .func (.func 90) #[] #[]] w fun e w' => e = .returned (.bool (es.any idB)) ∧ Below w.heap.size w w') := containsK2_any es pa N pc w hrd hN
  have hl : es.length = N := hrd.1
  have hNi : (N : Int) ≤ 9223372036854775806 := by omega
  clear hrd
  by_cases h0 : op = 0
  · have hr : empF op es = true := by unfold empF; rw [if_pos h0]
    rw [hr]
    subst h0
    clear hr hl HC1 HC2
    go_enter Try.func87, Try.ntmps87
    go_wp2
    go_ret
    exact ⟨rfl, Below.refl _ _⟩
  by_cases h2 : op = 2
  · have hr : empF op es = !(es.any notB) := by unfold empF; rw [if_neg h0, if_pos h2]
    rw [hr]
    obtain ⟨q, hq⟩ : ∃ q, q = es.any notB := ⟨_, rfl⟩
    rw [← hq] at HC1 ⊢
    subst h2
    clear hr hl HC2 hq h0
    go_enter Try.func87, Try.ntmps87
    go_wp2_with fail
    refine HC1.out.mono ?_
    rintro e w2 ⟨rfl, hb2⟩
    have HB2 : Hid (Below w.heap.size w w2) := hb2
    clear hb2
    go_wp2
    go_ret
    exact ⟨rfl, HB2.out⟩
  by_cases h3 : op = 3
  · have hr : empF op es = es.any idB := by unfold empF; rw [if_neg h0, if_neg h2, if_pos h3]
    rw [hr]
    obtain ⟨q, hq⟩ : ∃ q, q = es.any idB := ⟨_, rfl⟩
    rw [← hq] at HC2 ⊢
    subst h3
    clear hr hl HC1 hq h0 h2
    go_enter Try.func87, Try.ntmps87
    go_wp2_with fail
    refine HC2.out.mono ?_
    rintro e w2 ⟨rfl, hb2⟩
    have HB2 : Hid (Below w.heap.size w w2) := hb2
    clear hb2
    go_wp2
    go_ret
    exact ⟨rfl, HB2.out⟩
  by_cases h45 : op = 4 ∨ op = 5
  · obtain ⟨q, hq⟩ : ∃ q, q = empF op es := ⟨_, rfl⟩
    have hr : ((N : Int) == 1) = q := by
      rw [hq]; unfold empF; rw [if_neg h0, if_neg h2, if_neg h3, if_pos h45, hl, Bool.eq_iff_iff]; simp; omega
    have hr2 : (((N : Int) - 1) == 0) = q := by rw [← hr, Bool.eq_iff_iff]; simp; omega
    have w1 : IntKind.i64.wrap ((N : Int) - 1) = (N : Int) - 1 := by rw [IntKind.wrap_i64]; omega
    rw [← hq]
    clear hl HC1 HC2 hq h0 h2 h3
    rcases h45 with rfl | rfl
    all_goals
      go_enter Try.func87, Try.ntmps87
      go_wp2
      go_ret
      exact ⟨by simp_all, Below.refl _ _⟩
  · have hr : empF op es = false := by unfold empF; rw [if_neg h0, if_neg h2, if_neg h3, if_neg h45]
    rw [hr]
    have e4 : ¬ op = 4 := fun h => h45 (.inl h)
    have e5 : ¬ op = 5 := fun h => h45 (.inr h)
    clear hr hl HC1 HC2 h45
    go_enter Try.func87, Try.ntmps87
    go_wp2
    go_ret
    exact ⟨rfl, Below.refl _ _⟩
end Go.Proofs.Ytjbhfonokgkalaa
