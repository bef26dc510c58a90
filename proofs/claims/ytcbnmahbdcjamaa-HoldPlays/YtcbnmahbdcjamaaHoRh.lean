/- The reference's hold: mathematics of its sorted row (places are counted), of what goes; the walks of its Remove and All. -/
import Derived.Test.YtcbnmahbdcjamaaHoRg
import Derived.Laws.OwnMore
import Derived.Deep.MidRow
namespace Go.Proofs.Ytcbnmahbdcjamaa
open Go.RowKit Go.Sort
set_option linter.unusedVariables false
set_option linter.unusedSimpArgs false

/-- How many are ahead. -/
def rkK (M : List Opn) (o : Opn) : Nat := M.countP fun x => decide (ltK x o)
theorem rk_asc : (l : List Opn) → AscK l → ∀ q, q < l.length → rkK l (l.getD q op0) = q
  | [], _, q, h => by simp at h
  | x :: r, hA, 0, h => by
    have h1 : ∀ y ∈ x :: r, ¬ ltK y x := by
      intro y hy
      rcases List.mem_cons.1 hy with rfl | hy
      · exact ltK_irr _
      · exact ltK_asym ((List.pairwise_cons.1 hA).1 y hy)
    show (x :: r).countP _ = 0
    rw [List.countP_eq_zero]
    intro y hy
    simpa using h1 y hy
  | x :: r, hA, q + 1, h => by
    have hr := rk_asc r (List.pairwise_cons.1 hA).2 q (by simpa using h)
    have hm : r.getD q op0 ∈ r := by simp [List.getD, List.getElem?_eq_getElem (show q < r.length by simpa using h)]
    have hx := (List.pairwise_cons.1 hA).1 _ hm
    show (x :: r).countP (fun y => decide (ltK y ((x :: r).getD (q + 1) op0))) = q + 1
    have e : (x :: r).getD (q + 1) op0 = r.getD q op0 := by simp
    rw [e, List.countP_cons_of_pos (by simpa using hx)]
    exact congrArg (· + 1) hr
theorem rk_perm {l M : List Opn} (h : l.Perm M) (o : Opn) : rkK M o = rkK l o := (h.countP_eq _).symm
/-- The row after some were put at their places. -/
def fiK (M : List Opn) : Nat → List Opn
  | 0 => List.replicate M.length op0
  | i + 1 => (fiK M i).set (rkK M (M.getD i op0)) (M.getD i op0)
theorem fi_len (M : List Opn) : (i : Nat) → (fiK M i).length = M.length
  | 0 => by simp [fiK]
  | i + 1 => by rw [fiK, List.length_set]; exact fi_len M i
theorem fi_at {l M : List Opn} (hA : AscK l) (hp : l.Perm M) (q : Nat) (hq : q < l.length) : (i : Nat) → i ≤ M.length → (∃ j, j < i ∧ M.getD j op0 = l.getD q op0) → (fiK M i)[q]? = some (l.getD q op0)
  | 0, _, h => by obtain ⟨j, hj, _⟩ := h; omega
  | i + 1, hi, h => by
    rw [fiK]
    have hm : M.getD i op0 ∈ M := by simp [List.getD, List.getElem?_eq_getElem (show i < M.length by omega)]
    obtain ⟨q', hq', e'⟩ := List.mem_iff_getElem.1 (hp.mem_iff.2 hm)
    have e2 : l.getD q' op0 = M.getD i op0 := by rw [← e']; simp [List.getD, hq']
    have hrk : rkK M (M.getD i op0) = q' := by rw [rk_perm hp, ← e2]; exact rk_asc l hA q' hq'
    rw [hrk]
    by_cases hqq : q' = q
    · subst hqq
      rw [List.getElem?_set_self (by rw [fi_len, ← hp.length_eq]; exact hq), e2]
    · rw [List.getElem?_set_ne hqq]
      refine fi_at hA hp q hq i (by omega) ?_
      obtain ⟨j, hj, hje⟩ := h
      refine ⟨j, ?_, hje⟩
      rcases Nat.lt_or_ge j i with r | r
      · exact r
      · exfalso
        obtain rfl : j = i := by omega
        rw [← e2] at hje
        have h1 := rk_asc l hA q' hq'
        rw [hje, rk_asc l hA q hq] at h1
        exact hqq h1.symm
theorem fi_all {l M : List Opn} (hA : AscK l) (hp : l.Perm M) : fiK M M.length = l := by
  apply List.ext_getElem?
  intro q
  by_cases hq : q < l.length
  · have hm : l.getD q op0 ∈ l := by simp [List.getD, List.getElem?_eq_getElem hq]
    obtain ⟨j, hj, e⟩ := List.mem_iff_getElem.1 (hp.mem_iff.1 hm)
    rw [fi_at hA hp q hq M.length (Nat.le_refl _) ⟨j, hj, by rw [← e]; simp [List.getD, hj]⟩]
    simp [List.getD, List.getElem?_eq_getElem hq]
  · rw [List.getElem?_eq_none (by rw [fi_len, ← hp.length_eq]; omega), List.getElem?_eq_none (by omega)]
/-- How many of the beginning are ahead. -/
theorem rk_step (M : List Opn) (o : Opn) (k : Nat) (hk : k < M.length) : rkK (M.take (k + 1)) o = rkK (M.take k) o + (if ltK (M.getD k op0) o then 1 else 0) := by
  unfold rkK
  rw [take_nextH M k hk, List.countP_append]
  by_cases h : ltK (M.getD k op0) o <;> simp [h]
theorem rk_lt {l M : List Opn} (hA : AscK l) (hp : l.Perm M) (o : Opn) (ho : o ∈ M) : rkK M o < M.length := by
  obtain ⟨q', hq', e'⟩ := List.mem_iff_getElem.1 (hp.mem_iff.2 ho)
  have e2 : l.getD q' op0 = o := by rw [← e']; simp [List.getD, hq']
  rw [rk_perm hp, ← e2, rk_asc l hA q' hq', ← hp.length_eq]
  exact hq'
theorem remK_snoc (M : List Opn) (a s : Int) (i : Nat) (hi : i < M.length) : remK (M.take (i + 1)) a s = remK (M.take i) a s ++ (if (M.getD i op0).a = a ∧ (M.getD i op0).s = s then [] else [M.getD i op0]) := by
  unfold remK
  rw [take_nextH M i hi, List.filter_append]
  congr 1
  generalize M.getD i op0 = E
  by_cases h1 : E.a = a <;> by_cases h2 : E.s = s <;> simp [h1, h2]
theorem made_P (n : Nat) : (madeCells op0.val.cells (n * 7)).toList = flatP (List.replicate n op0) := by
  apply List.ext_getElem?
  intro j
  have e : (op0.val.cells : Array Value) = #[.int .i64 0, .int .i64 0, .int .i64 0, .bool false, .int .i64 0, .int .i64 0, .int .i32 0] := rfl
  by_cases hj : j < n * 7
  · have h1 : ((madeCells op0.val.cells (n * 7)).toList)[j]? = some (op0.val.cells[j % 7]!) := by
      simp [madeCells, hj, e]
    rw [h1]
    have hd : j = (j / 7) * 7 + j % 7 := by omega
    have hq : j / 7 < n := by omega
    have h2 := flatP_at (List.replicate n op0) (j / 7) (by simpa using hq) (j % 7) (by omega)
    rw [← hd] at h2
    rw [h2]
    have h3 : (List.replicate n op0).getD (j / 7) op0 = op0 := by simp [List.getD, hq]
    rw [h3, e]
    have : j % 7 < 7 := by omega
    generalize j % 7 = r at this
    rcases r with _ | _ | _ | _ | _ | _ | _ | r
    all_goals first | rfl | omega
  · rw [List.getElem?_eq_none (by simp [madeCells]; omega), List.getElem?_eq_none (by rw [flatP_len]; simp; omega)]
theorem wpList_append_srcH {P : Program} {w : World} {ops : Array Oper} {rest : List Oper} {o : Oper} {a : Act} {Q : Exit → Act → World → Prop} (hgd : o.guard = none) (s x : Operand) (t : TypeId)
    (ho : o.op = .call { callee := .builtin .append, args := #[s, x], argTypes := #[t, t] })
    (base : Nat) (e : TypeId) (i : TypeInfo) (z : Value) (size bytes : Nat) (ht : P.underlying t = some (.slice e)) (hi : P.info? e = some i) (hz : i.zero = some z)
    (hsize : i.size = size) (hby : i.bytes = bytes) (hzs : z.cells.size = size) (hsz : 0 < size)
    (v : Value) (n : Nat) (xs : List Value) (hs : a.eval s = v) (hown : w.ownsRow base e size v n xs)
    (ad : Option Addr) (m c : Nat) (news : List Value) (hx : a.eval x = .slice ad m c) (hsrc : SrcAt w ad m c size news)
    (h63 : n + m ≤ maxLen) (hbytes : (n + m) * bytes ≤ 140737488355328) (hbase : base ≤ w.heap.size)
    (h : ∀ v' w', w'.ownsRow base e size v' (n + m) (xs ++ news) → w.grownBy w' v.ownBlock → wpList P ops Q rest (a.put o.dst v') w') : wpList P ops Q (o :: rest) a w := by
  obtain ⟨s1, s2, s3, s4⟩ := hsrc
  cases ad with
  | none =>
    obtain ⟨rfl, rfl⟩ := s2 rfl
    obtain rfl : news = [] := List.eq_nil_of_length_eq_zero (by simpa using s1)
    exact wpList_append_own_none hgd s x t ho base e i size ht hi v n xs hs hown hx (h v w (by simpa using hown) ⟨rfl, rfl, rfl, Nat.le_refl _, fun _ _ _ => rfl⟩)
  | some x' =>
    exact wpList_append_own _ hgd s x t ho base e i z size bytes ht hi hz hsize hby hzs hsz v n xs hs hown x' m c news hx s1 (s3 x' rfl) s4 h63 hbytes hbase
      (fun v' w' h1 h2 _ => h v' w' h1 h2)
set_option maxRecDepth 100000 in
set_option maxHeartbeats 8000000 in
theorem rf_rem {B T r : Nat} {M : List Opn} {v : Value} (w : World) (h : RfH w B T r M v) (hl : M.length ≤ 100000) (au sq : Int) :
    Calls Try.prog 88 #[.pointer (some ⟨T, 0, none⟩), .int .i64 au, .int .i64 sq] w fun e w' => e = .returned (.tuple #[]) ∧ RfQ w B T r (remK M au sq) w' := by
  obtain ⟨i0, hi, hz0, hz1, hz2⟩ := info_parts info_P
  obtain ⟨a, cap, rfl, g1, g2, g3, g4⟩ := h.rd
  obtain ⟨n, hn⟩ : ∃ n, n = M.length := ⟨_, rfl⟩
  rw [← hn] at g1 g3 h hl
  have HN : Hid (n = M.length) := hn
  have HR : Hid (∀ V, Below w.heap.size w V → RdP V a n M) := fun V hV => g3.later hV
  have HT : Hid (∀ V, Below w.heap.size w V → V.cell? ⟨T, 1, none⟩ = some (.slice a n cap) ∧ V.frozen? ⟨T, 1, none⟩ = false) := fun V hV => (h.later hV).cells.2
  have HEND : Hid (∀ V v3 k, Below w.heap.size w V → V.ownsRow w.heap.size 34 7 v3 k (flatP (remK M au sq)) → RfQ w B T r (remK M au sq) (V.setCell ⟨T, 1, none⟩ v3)) := fun V v3 k hb ho => by
    have hk : k = (remK M au sq).length := by have := ho.1; rw [flatP_len] at this; omega
    subst hk
    have hc := cg_set V T 1 v3
    have hlt := (Array.getElem?_eq_some_iff.1 h.box).1
    refine ⟨v3, ⟨h.low, ?_, ?_⟩, cg_trans (cg_below hb (fun k => k = T)) hc (fun _ _ q => q), fun k hk => (ho.lt k hk).1⟩
    · rw [heap_setX V T 1 _ _ _ _ (h.later hb).box]; simp
    · refine own_baseK16 (cg_own hc ho (fun k hk q => ?_)) (Nat.le_trans h.low (by omega))
      have := (ho.lt k hk).1
      omega
  have HQ : Hid (∃ Q : World → Prop, Q = RfQ w B T r (remK M au sq)) := ⟨_, rfl⟩
  obtain ⟨Q, hQ⟩ := HQ.out
  have HENQ : Hid (∀ V v3 k, Below w.heap.size w V → V.ownsRow w.heap.size 34 7 v3 k (flatP (remK M au sq)) → Q (V.setCell ⟨T, 1, none⟩ v3)) := by rw [hQ]; exact HEND.out
  rw [← hQ]
  have hOE : (w.alloc (.cells #[] 34)).ownsRow w.heap.size 34 7 (.slice (some ⟨w.heap.size, 0, none⟩) 0 0) 0 [] := World.ownsRow_made w #[] 0 (Nat.le_refl _) (by simp [maxLen]) rfl
  have HOE : Hid (type_of% hOE) := hOE
  have HB0 : Hid (∀ x, Below w.heap.size w (w.alloc x)) := fun x => (Below.refl _ w).alloc (Nat.le_refl _) x
  clear h g1 g3 g4 hn HEND HQ hQ hOE
  go_enter Try.func88, Try.ntmps88
  go_upto_region 2 with fail
  go_loopw [6, 7] (fun x6 x7 wr => ∃ (i k : Nat), x7 = .int .i64 (i : Int) ∧ i ≤ n ∧ k ≤ i ∧ wr.ownsRow w.heap.size 34 7 x6 k (flatP (remK (M.take i) au sq)) ∧ Below w.heap.size w wr) (fun _ x7 _ => n - (RowKit.intOf x7).toNat)
  case atStart => exact ⟨0, 0, rfl, by omega, by omega, HOE.out, HB0.out _⟩
  case round =>
    obtain ⟨i, k, h7, hi1, hki, ho, hb⟩ := hrel
    subst h7
    have HO : Hid (wr.ownsRow w.heap.size 34 7 u6 k (flatP (remK (M.take i) au sq))) := ho
    have HB : Hid (Below w.heap.size w wr) := hb
    obtain ⟨k1, k2⟩ := HT.out wr hb
    clear ho hb
    by_cases hlt : i < n
    · obtain ⟨b, off, rfl, c0, c1, c2, c3, c4, c5, c6⟩ := (HR.out wr HB.out).at i hlt
      have hst := remK_snoc M au sq i (by rw [← HN.out]; exact hlt)
      have hi0 : (0 : Int) ≤ (i : Int) := by omega
      have hi2 : (i : Int) < (n : Int) := by omega
      generalize M.getD i op0 = E at c0 c1 c2 c3 c4 c5 c6 hst
      have HOA : Hid (∀ x, (wr.alloc x).ownsRow w.heap.size 34 7 u6 k (flatP (remK (M.take i) au sq))) := fun x => HO.out.alloc x
      have HBA : Hid (∀ x, Below w.heap.size w (wr.alloc x)) := fun x => HB.out.alloc HB.out.size x
      have HSR : Hid (SrcAt (wr.alloc (.cells #[.int .i64 E.c, .int .i64 E.a, .int .i64 E.s, .bool E.ins, .int .i64 E.rc, .int .i64 E.ra, .int .i32 E.ch] 34)) (some ⟨wr.heap.size, 0, none⟩) 1 1 7 (encP E)) := srcO16 (heap_alloc_new wr _)
      by_cases e1 : E.a = au
      · have e1b : (E.a != au) = false := by simp [e1]
        by_cases e2 : E.s = sq
        · have e2b : (E.s != sq) = false := by simp [e2]
          rw [if_pos ⟨e1, e2⟩, List.append_nil] at hst
          have HO2 : Hid (wr.ownsRow w.heap.size 34 7 u6 k (flatP (remK (M.take (i + 1)) au sq))) := by rw [hst]; exact HO.out
          clear hst e1 e2
          go_wp2
          go_roundw
          case rel => exact ⟨i + 1, k, by go_num, by omega, by omega, HO2.out, HB.out⟩
          case measure => simp [RowKit.intOf]; omega
        · have e2b : (E.s != sq) = true := by simpa using e2
          rw [if_neg (fun q => e2 q.2)] at hst
          have HST : Hid (flatP (remK (M.take (i + 1)) au sq) = flatP (remK (M.take i) au sq) ++ encP E) := by
            have h9 : flatP (remK (M.take (i + 1)) au sq) = flatP (remK (M.take i) au sq) ++ encP E := by rw [hst, flatP_app, flatP_one]
            exact h9
          clear hst e1
          go_upto_region 3 with (at_builtin; refine wpList_append_srcH rfl (.tmp 41) (.tmp 49) 22 rfl w.heap.size 34 i0 op0.val 7 56 Try.underlying22 hi hz0 hz1 hz2 rfl (by decide) u6 k _ rfl (HOA.out _) (some ⟨wr.heap.size, 0, none⟩) 1 1 (encP E) rfl HSR.out (by unfold maxLen; omega) (by omega) (HBA.out _).size ?_)
          intro v6 w6 o6 g6
          have HB6 : Hid (Below w.heap.size w w6) := (HBA.out _).grown g6 (HBA.out _).size (fun j hj => (HO.out.lt j hj).1)
          have HO6 : Hid (w6.ownsRow w.heap.size 34 7 v6 (k + 1) (flatP (remK (M.take (i + 1)) au sq))) := by rw [HST.out]; exact o6
          clear o6 g6
          go_wp2
          go_roundw
          case rel => exact ⟨i + 1, k + 1, by go_num, by omega, by omega, HO6.out, HB6.out⟩
          case measure => simp [RowKit.intOf]; omega
      · have e1b : (E.a != au) = true := by simpa using e1
        rw [if_neg (fun q => e1 q.1)] at hst
        have HST : Hid (flatP (remK (M.take (i + 1)) au sq) = flatP (remK (M.take i) au sq) ++ encP E) := by
          have h9 : flatP (remK (M.take (i + 1)) au sq) = flatP (remK (M.take i) au sq) ++ encP E := by rw [hst, flatP_app, flatP_one]
          exact h9
        clear hst
        go_upto_region 3 with (at_builtin; refine wpList_append_srcH rfl (.tmp 41) (.tmp 49) 22 rfl w.heap.size 34 i0 op0.val 7 56 Try.underlying22 hi hz0 hz1 hz2 rfl (by decide) u6 k _ rfl (HOA.out _) (some ⟨wr.heap.size, 0, none⟩) 1 1 (encP E) rfl HSR.out (by unfold maxLen; omega) (by omega) (HBA.out _).size ?_)
        intro v6 w6 o6 g6
        have HB6 : Hid (Below w.heap.size w w6) := (HBA.out _).grown g6 (HBA.out _).size (fun j hj => (HO.out.lt j hj).1)
        have HO6 : Hid (w6.ownsRow w.heap.size 34 7 v6 (k + 1) (flatP (remK (M.take (i + 1)) au sq))) := by rw [HST.out]; exact o6
        clear o6 g6
        go_wp2
        go_roundw
        case rel => exact ⟨i + 1, k + 1, by go_num, by omega, by omega, HO6.out, HB6.out⟩
        case measure => simp [RowKit.intOf]; omega
    · obtain rfl : i = n := by omega
      have HO2 : Hid (wr.ownsRow w.heap.size 34 7 u6 k (flatP (remK M au sq))) := by
        have := HO.out
        rw [List.take_of_length_le (by rw [HN.out]; omega)] at this
        exact this
      obtain ⟨a6, c6, rfl, _⟩ := rdP_own HO2.out
      have HF : Hid (Q (wr.setCell ⟨T, 1, none⟩ (.slice a6 k c6))) := HENQ.out wr _ k HB.out HO2.out
      clear HO
      go_wp2
      go_end0
      exact ⟨rfl, HF.out⟩
end Go.Proofs.Ytcbnmahbdcjamaa
