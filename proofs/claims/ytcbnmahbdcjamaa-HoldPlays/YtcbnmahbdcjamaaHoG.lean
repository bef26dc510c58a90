/- The walks of those, and of the library's IndexFunc over operations: of any function of operations. -/
import Derived.Test.YtcbnmahbdcjamaaHoF
import Derived.Deep.AppendLies
import Derived.Lib.SliceRun
namespace Go.Proofs.Ytcbnmahbdcjamaa
open Go.RowKit Go.Sort
set_option linter.unusedVariables false
set_option linter.unusedSimpArgs false

/-- Those of the first k of which P holds. -/
def keptK (l : List Opn) (P : Opn → Bool) (k : Nat) : List Opn := (l.take k).filter P
theorem keptK_snoc (l : List Opn) (P : Opn → Bool) (k : Nat) (h : k < l.length) : keptK l P (k + 1) = keptK l P k ++ (if P (l.getD k op0) = true then [l.getD k op0] else []) := by
  have e : l.take (k + 1) = l.take k ++ [l.getD k op0] := by
    rw [List.take_add_one, List.getElem?_eq_getElem h]
    simp [h]
  unfold keptK
  rw [e]
  generalize l.getD k op0 = X
  rw [List.filter_append]
  congr 1
  cases hb : P X <;> simp [hb]
theorem keptK_len (l : List Opn) (P : Opn → Bool) (k : Nat) : (keptK l P k).length ≤ k := by
  unfold keptK
  have := List.length_filter_le P (l.take k)
  rw [List.length_take] at this
  omega
theorem keptK_all (l : List Opn) (P : Opn → Bool) : keptK l P l.length = l.filter P := by simp [keptK]
theorem news_preK {w : World} {b : Nat} {cs : Array Value} {t : TypeId} {fr : Nat × Nat} {news : List Value} (h : w.heap[b]? = some (.cells cs t fr)) (hn : cs.toList = news) : ∀ j u, news[j]? = some u → w.cell? ((⟨b, 0, none⟩ : Addr).add j) = some u := by
  intro j u hj
  rw [add_lit14, Nat.zero_add, cell_of_row w b j _ _ _ h]
  rw [← hn] at hj
  simpa using hj
set_option maxRecDepth 100000 in
set_option maxHeartbeats 8000000 in
theorem thoseK_any {B bh r : Nat} {l : List Opn} {v : Value} (w : World) (F : Nat) (cs : Array Value) (P : Opn → Bool) (h : HoS w B bh r l v) (hl : l.length ≤ 100000) (hA : Ask F cs P w) :
    Calls Try.prog 89 #[.pointer (some ⟨bh, 0, none⟩), .func (.func F) #[] cs] w fun e w' => ∃ u, e = .returned u ∧ w'.ownsRow w.heap.size 34 7 u (l.filter P).length (flatP (l.filter P)) ∧ Below w.heap.size w w' := by
  obtain ⟨i0, hi, hz0, hz1, hz2⟩ := info_parts info_P
  obtain ⟨a, cap, rfl, g1, g2, g3, g4⟩ := h.rd
  obtain ⟨n, hn⟩ : ∃ n, n = l.length := ⟨_, rfl⟩
  rw [← hn] at g1 g3 h
  have HRD : Hid (∀ V, Below w.heap.size w V → RdP V a n l) := fun V hV => g3.later hV
  have HLN : Hid (n = l.length) := hn
  have hnl : n ≤ 100000 := by omega
  have hk1 : w.cell? ⟨bh, 1, none⟩ = some (.slice a n cap) := h.cells.2.1
  have HR : Hid (∃ R : Value → World → Prop, R = fun u w' => w'.ownsRow w.heap.size 34 7 u (l.filter P).length (flatP (l.filter P)) ∧ Below w.heap.size w w') := ⟨_, rfl⟩
  obtain ⟨R, hR⟩ := HR.out
  have HRR : Hid (∀ b m d V, m = (keptK l P n).length → V.ownsRow w.heap.size 34 7 (.slice b m d) m (flatP (keptK l P n)) → Below w.heap.size w V → R (.slice b m d) V) := fun b m d V q1 q2 q3 => by
    rw [hR]
    rw [hn, keptK_all] at q1 q2
    rw [← q1]
    exact ⟨q2, q3⟩
  show Calls _ _ _ _ fun e w' => ∃ u, e = .returned u ∧ (fun u w' => w'.ownsRow w.heap.size 34 7 u (l.filter P).length (flatP (l.filter P)) ∧ Below w.heap.size w w') u w'
  rw [← hR]
  have HA : Hid (∀ (o : Opn) (V : World), Below w.heap.size w V → Calls Try.prog F (#[o.val] ++ cs) V fun e w' => e = .returned (.bool (P o)) ∧ Below w.heap.size w w' ∧ Below V.heap.size V w') := fun o V hV => (hA.2 o V hV).mono (by
    rintro e w' ⟨rfl, hb⟩
    exact ⟨rfl, hV.trans (hb.mono hV.size), hb⟩)
  have HB0 : Hid (Below w.heap.size w w) := Below.refl _ _
  have hfn := func_nil F cs
  have hcf := hA.1
  clear HR hR h hn hl g3 g4 g1 hA
  go_enter Try.func89, Try.ntmps89
  go_wp2
  go_loopw [16, 5] (fun x16 x5 wr => ∃ (k m d : Nat) (b : Option Addr), x16 = .int .i64 (k : Int) ∧ x5 = .slice b m d ∧ k ≤ n ∧ m = (keptK l P k).length ∧ wr.ownsRow w.heap.size 34 7 (.slice b m d) m (flatP (keptK l P k)) ∧ Below w.heap.size w wr) (fun x16 _ _ => n - (intOf x16).toNat)
  case atStart => exact ⟨0, 0, 0, none, rfl, rfl, by omega, rfl, World.ownsRow_nil _ _ _ _, HB0.out⟩
  case round =>
    obtain ⟨k, m, d, bb, hx, hx5, hk, hm, how, hb⟩ := hrel
    subst hx hx5
    have HM : Hid (m = (keptK l P k).length) := hm
    have HO : Hid (wr.ownsRow w.heap.size 34 7 (.slice bb m d) m (flatP (keptK l P k))) := how
    have HB : Hid (Below w.heap.size w wr) := hb
    have hmk : m ≤ 100000 := by have := keptK_len l P k; omega
    clear hm how hb HB0
    by_cases hlt : k < n
    · obtain ⟨b, off, hab, c0, c1, c2, c3, c4, c5, c6⟩ := (HRD.out wr HB.out).at k hlt
      subst hab
      obtain ⟨p, hp⟩ : ∃ p, p = l.getD k op0 := ⟨_, rfl⟩
      rw [← hp] at c0 c1 c2 c3 c4 c5 c6
      have hkk := keptK_snoc l P k (by rw [← HLN.out]; exact hlt)
      rw [← hp] at hkk
      clear hp
      obtain ⟨W1, hW1⟩ : ∃ W1, W1 = wr.alloc (bxP p) := ⟨_, rfl⟩
      obtain ⟨M, hM⟩ : ∃ M, M = wr.heap.size := ⟨_, rfl⟩
      have hbx : W1.heap[M]? = some (bxP p) := by rw [hW1, hM]; exact heap_alloc_new wr _
      have hb1 : Below wr.heap.size wr W1 := by rw [hW1]; exact (Below.refl _ wr).alloc (Nat.le_refl _) _
      have HB1 : Hid (Below w.heap.size w W1) := HB.out.trans (hb1.mono HB.out.size)
      have HO1 : Hid (W1.ownsRow w.heap.size 34 7 (.slice bb m d) m (flatP (keptK l P k))) := by rw [hW1]; exact HO.out.alloc _
      have HA1 : Calls Try.prog F (#[p.val] ++ cs) W1 fun e w' => e = .returned (.bool (P p)) ∧ Below w.heap.size w w' ∧ w'.heap[M]? = some (bxP p) ∧ w'.ownsRow w.heap.size 34 7 (.slice bb m d) m (flatP (keptK l P k)) := (HA.out p W1 HB1.out).mono (by
        rintro e w' ⟨rfl, h1, h2⟩
        exact ⟨rfl, h1, bel_heap h2 hbx, cg_own (cg_below h2 (fun _ => False)) HO1.out (fun _ _ q => q)⟩)
      obtain ⟨q0, q1, q2, q3, q4, q5, q6⟩ := opAt_box hbx
      cases hz : P p
      · rw [hz] at HA1 hkk
        simp only [Bool.false_eq_true, if_false, List.append_nil] at hkk
        have HK : Hid (keptK l P (k + 1) = keptK l P k) := hkk
        clear hz hkk
        obtain ⟨pc, pa, ps, pi, prc, pra, pch⟩ := p
        simp only [Opn.val] at HA1 q0 q1 q2 q3 q4 q5 q6 c0 c1 c2 c3 c4 c5 c6
        go_upto_region 7 with fail
        rw [← hM, ← hW1]
        clear hM hW1
        have HA2 : Hid (Calls Try.prog F (#[.agg #[.int .i64 pc, .int .i64 pa, .int .i64 ps, .bool pi, .int .i64 prc, .int .i64 pra, .int .i32 pch]] ++ cs) W1 fun e w' => e = .returned (.bool false) ∧ Below w.heap.size w w' ∧ w'.heap[M]? = some (bxP ⟨pc, pa, ps, pi, prc, pra, pch⟩) ∧ w'.ownsRow w.heap.size 34 7 (.slice bb m d) m (flatP (keptK l P k))) := HA1
        clear HA1 HA hbx
        go_wp2_with ((with_reducible show Calls _ F _ _ _); refine HA2.out.mono ?_; rintro e w2 ⟨rfl, hg⟩; have HB2 : Hid (Below w.heap.size w w2 ∧ w2.ownsRow w.heap.size 34 7 (.slice bb m d) m (flatP (keptK l P k))) := ⟨hg.1, hg.2.2⟩; clear hg)
        go_roundw
        case rel => exact ⟨k + 1, m, d, bb, (by go_num), rfl, (by omega), by rw [HK.out]; exact HM.out, by rw [HK.out]; exact HB2.out.2, HB2.out.1⟩
        case measure => simp [intOf]; omega
      · rw [hz] at HA1 hkk
        simp only [if_true] at hkk
        have HK : Hid (keptK l P (k + 1) = keptK l P k ++ [p]) := hkk
        clear hz hkk
        obtain ⟨pc, pa, ps, pi, prc, pra, pch⟩ := p
        simp only [Opn.val] at HA1 q0 q1 q2 q3 q4 q5 q6 c0 c1 c2 c3 c4 c5 c6
        go_upto_region 7 with fail
        rw [← hM, ← hW1]
        clear hM hW1
        have HA2 : Hid (Calls Try.prog F (#[.agg #[.int .i64 pc, .int .i64 pa, .int .i64 ps, .bool pi, .int .i64 prc, .int .i64 pra, .int .i32 pch]] ++ cs) W1 fun e w' => e = .returned (.bool true) ∧ Below w.heap.size w w' ∧ w'.heap[M]? = some (bxP ⟨pc, pa, ps, pi, prc, pra, pch⟩) ∧ w'.ownsRow w.heap.size 34 7 (.slice bb m d) m (flatP (keptK l P k))) := HA1
        have HMX : Hid (∀ V : World, V.heap[M]? = some (bxP ⟨pc, pa, ps, pi, prc, pra, pch⟩) → V.cell? ⟨M, 0, none⟩ = some (.int .i64 pc) ∧ V.cell? ⟨M, 1, none⟩ = some (.int .i64 pa) ∧ V.cell? ⟨M, 2, none⟩ = some (.int .i64 ps) ∧ V.cell? ⟨M, 3, none⟩ = some (.bool pi) ∧ V.cell? ⟨M, 4, none⟩ = some (.int .i64 prc) ∧ V.cell? ⟨M, 5, none⟩ = some (.int .i64 pra) ∧ V.cell? ⟨M, 6, none⟩ = some (.int .i32 pch)) := fun V hV => opAt_box hV
        clear HA1 HA hbx
        go_wp2_with (first
          | ((with_reducible show Calls _ F _ _ _); refine HA2.out.mono ?_; rintro e w2 ⟨rfl, hg⟩; have HB2 : Hid (Below w.heap.size w w2 ∧ w2.ownsRow w.heap.size 34 7 (.slice bb m d) m (flatP (keptK l P k))) := ⟨hg.1, hg.2.2⟩; obtain ⟨m0, m1, m2, m3, m4, m5, m6⟩ := HMX.out w2 hg.2.1; clear hg)
          | (at_builtin; refine wpList_append_lies _ rfl (.tmp 23) (.tmp 25) 22 rfl w.heap.size 34 i0 (op0.val) 7 56 Try.underlying22 hi hz0 hz1 hz2 rfl (by decide) _ _ _ rfl (HB2.out.2.alloc _) ⟨_, 0, none⟩ 1 1 [.int .i64 pc, .int .i64 pa, .int .i64 ps, .bool pi, .int .i64 prc, .int .i64 pra, .int .i32 pch] rfl rfl (news_preK (heap_alloc_new _ _) rfl) ?hone (by decide) ?h63 ?hby ?hbase _ rfl ?_))
        case hone => simp [Value.oneCell']
        case h63 => unfold maxLen; omega
        case hby => omega
        case hbase => have := HB2.out.1.size; simp; omega
        intro g cap2 w4 r1 r2 r3 _
        have HF : Hid (w4.ownsRow w.heap.size 34 7 (.slice (some ⟨g, 0, none⟩) (m + 1) cap2) (m + 1) (flatP (keptK l P (k + 1))) ∧ Below w.heap.size w w4) := by
          refine ⟨?_, (HB2.out.1.alloc HB2.out.1.size _).grown r2 (by have := HB2.out.1.size; simp; omega) (fun j hj => (HB2.out.2.lt j hj).1)⟩
          rw [HK.out, flatP_app, flatP_one]
          exact r1
        clear r1 r2 r3
        go_wp2
        go_roundw
        case rel => exact ⟨k + 1, m + 1, cap2, some ⟨g, 0, none⟩, (by go_num), rfl, (by omega), by rw [HK.out, List.length_append, HM.out]; rfl, HF.out.1, HF.out.2⟩
        case measure => simp [intOf]; omega
    · obtain rfl : k = n := by omega
      have HE : Hid (R (.slice bb m d) wr) := HRR.out bb m d wr HM.out HO.out HB.out
      clear HRD HA
      go_wp2
      go_ret
      exact ⟨_, rfl, HE.out⟩
/-- The first of which P holds. -/
def IdxQ (l : List Opn) (n : Nat) (P : Opn → Bool) (e : Ending) : Prop :=
  (∃ k : Nat, k < n ∧ (∀ j, j < k → P (l.getD j op0) = false) ∧ P (l.getD k op0) = true ∧ e = .returned (.int .i64 (k : Int))) ∨ ((∀ j, j < n → P (l.getD j op0) = false) ∧ e = .returned (.int .i64 (-1)))
set_option maxRecDepth 100000 in
set_option maxHeartbeats 8000000 in
theorem indexK_any (l : List Opn) (a : Option Addr) (n cap : Nat) (w : World) (F : Nat) (cs : Array Value) (P : Opn → Bool) (hrd : RdP w a n l) (hn : n ≤ 100000) (hA : Ask F cs P w) :
    Calls Try.prog 124 #[.slice a n cap, .func (.func F) #[] cs] w fun e w' => IdxQ l n P e ∧ Below w.heap.size w w' := by
  have HRD : Hid (∀ V, Below w.heap.size w V → RdP V a n l) := fun V hV => hrd.later hV
  have HQ : Hid (∃ Q : Ending → Prop, Q = IdxQ l n P) := ⟨_, rfl⟩
  obtain ⟨Q, hQ⟩ := HQ.out
  have HQQ : Hid (∀ e, IdxQ l n P e → Q e) := fun e q => by rw [hQ]; exact q
  rw [← hQ]
  have HA : Hid (∀ (o : Opn) (V : World), Below w.heap.size w V → Calls Try.prog F (#[o.val] ++ cs) V fun e w' => e = .returned (.bool (P o)) ∧ Below w.heap.size w w') := fun o V hV => (hA.2 o V hV).mono (by
    rintro e w' ⟨rfl, hb⟩
    exact ⟨rfl, hV.trans (hb.mono hV.size)⟩)
  have HB0 : Hid (Below w.heap.size w w) := Below.refl _ _
  have hcf := hA.1
  clear HQ hQ hrd hA
  go_enter Try.func124, Try.ntmps124
  go_wp2
  go_loopw [8] (fun x8 wr => ∃ k : Nat, x8 = .int .i64 (k : Int) ∧ k ≤ n ∧ (∀ j, j < k → P (l.getD j op0) = false) ∧ Below w.heap.size w wr) (fun x8 _ => n - (intOf x8).toNat)
  case atStart => exact ⟨0, rfl, by omega, fun j hj => absurd hj (by omega), HB0.out⟩
  case round =>
    obtain ⟨k, hx, hk, hno, hb⟩ := hrel
    subst hx
    have HNO : Hid (∀ j, j < k → P (l.getD j op0) = false) := hno
    have HB : Hid (Below w.heap.size w wr) := hb
    clear hno hb HB0
    by_cases hlt : k < n
    · obtain ⟨b, off, hab, c0, c1, c2, c3, c4, c5, c6⟩ := (HRD.out wr HB.out).at k hlt
      subst hab
      obtain ⟨p, hp⟩ : ∃ p, p = l.getD k op0 := ⟨_, rfl⟩
      rw [← hp] at c0 c1 c2 c3 c4 c5 c6
      have HA1 := HA.out p wr HB.out
      cases hz : P p
      · rw [hz] at HA1
        have HN1 : Hid (∀ j, j < k + 1 → P (l.getD j op0) = false) := fun j hj => by
          rcases Nat.lt_or_ge j k with q | q
          · exact HNO.out j q
          · rw [show j = k by omega, ← hp]; exact hz
        clear hz hp
        obtain ⟨pc, pa, ps, pi, prc, pra, pch⟩ := p
        simp only [Opn.val] at HA1 c0 c1 c2 c3 c4 c5 c6
        have HA2 : Hid (Calls Try.prog F (#[.agg #[.int .i64 pc, .int .i64 pa, .int .i64 ps, .bool pi, .int .i64 prc, .int .i64 pra, .int .i32 pch]] ++ cs) wr fun e w' => e = .returned (.bool false) ∧ Below w.heap.size w w') := HA1
        clear HA1 HA
        go_wp2_with ((with_reducible show Calls _ F _ _ _); refine HA2.out.mono ?_; rintro e w2 ⟨rfl, hg⟩; have HB2 : Hid (Below w.heap.size w w2) := hg; clear hg)
        go_roundw
        case rel => exact ⟨k + 1, (by go_num), (by omega), HN1.out, HB2.out⟩
        case measure => simp [intOf]; omega
      · rw [hz] at HA1
        have HE : Hid (Q (.returned (.int .i64 (k : Int)))) := HQQ.out _ (.inl ⟨k, hlt, HNO.out, by rw [← hp]; exact hz, rfl⟩)
        clear hz hp
        obtain ⟨pc, pa, ps, pi, prc, pra, pch⟩ := p
        simp only [Opn.val] at HA1 c0 c1 c2 c3 c4 c5 c6
        have HA2 : Hid (Calls Try.prog F (#[.agg #[.int .i64 pc, .int .i64 pa, .int .i64 ps, .bool pi, .int .i64 prc, .int .i64 pra, .int .i32 pch]] ++ cs) wr fun e w' => e = .returned (.bool true) ∧ Below w.heap.size w w') := HA1
        clear HA1 HA
        go_wp2_with ((with_reducible show Calls _ F _ _ _); refine HA2.out.mono ?_; rintro e w2 ⟨rfl, hg⟩; have HB2 : Hid (Below w.heap.size w w2) := hg; clear hg)
        go_ret
        exact ⟨HE.out, HB2.out⟩
    · obtain rfl : k = n := by omega
      have HE : Hid (Q (.returned (.int .i64 (-1)))) := HQQ.out _ (.inr ⟨HNO.out, rfl⟩)
      clear HRD HA
      go_wp2
      go_ret
      exact ⟨HE.out, HB.out⟩
end Go.Proofs.Ytcbnmahbdcjamaa
