/- The walk of Add. -/
import Derived.Test.YtcbnmahbdcjamaaHoC
import Derived.Test.YtcbnmahbdcjamaaIdI
import Derived.Deep.RegionHeld3
import Derived.Deep.MidRow
namespace Go.Proofs.Ytcbnmahbdcjamaa
open Go.RowKit Go.Sort
set_option linter.unusedVariables false
set_option linter.unusedSimpArgs false

theorem cutP_from (b len cap lo : Nat) (h1 : lo ≤ len) (h2 : len ≤ cap) (W : World) : (Instr.slice 22 (.slice (some ⟨b, 0, none⟩) len cap) (some (.int .i64 lo)) none none).run Try.prog W = .ok (.slice (some ⟨b, if cap = lo then 0 else lo * 7, none⟩) (len - lo) (cap - lo)) W := by
  have g0 : (0 : Int) ≤ (lo : Int) := by omega
  have g1 : (lo : Int) ≤ (len : Int) := by omega
  by_cases h : cap = lo
  · subst h
    go_simp
  · go_simp
theorem cutP_to (a : Option Addr) (len cap n : Nat) (h : n ≤ cap) (W : World) : (Instr.slice 22 (.slice a len cap) none (some (.int .i64 n)) none).run Try.prog W = .ok (.slice a n cap) W := by
  have h0 : (0 : Int) ≤ (n : Int) := by omega
  have h1 : (n : Int) ≤ (cap : Int) := by omega
  go_simp
theorem flatP_take (rs : List Opn) (i : Nat) (h : i ≤ rs.length) : flatP (rs.take i) = (flatP rs).take (7 * i) ∧ flatP (rs.drop i) = (flatP rs).drop (7 * i) := by
  have e : flatP rs = flatP (rs.take i) ++ flatP (rs.drop i) := by rw [← flatP_app, List.take_append_drop]
  have hl : (flatP (rs.take i)).length = 7 * i := by rw [flatP_len]; simp; omega
  constructor
  · rw [e, ← hl, List.take_left']; rfl
  · rw [e, ← hl, List.drop_left']; rfl
theorem flatP_cons (x : Opn) (b : List Opn) : flatP (x :: b) = encP x ++ flatP b := by simp [flatP]
/-- A row of cells, one of whose sevens is put in. -/
theorem shiftP (L F E D : List Value) (n i o : Nat) (hi : i ≤ n) (hF : F.length = 7 * n) (hE : E.length = 7) (hD : D = F.drop (7 * i)) (hL : L.take ((n + 1) * 7) = F ++ E) (ho : i < n → o = (i + 1) * 7)
    (L1 L2 : List Value) (h1 : L1 = L.take o ++ (D ++ L.drop (o + D.length))) (h2 : L2 = L1.take (i * 7) ++ (E ++ L1.drop (i * 7 + E.length))) :
    L2.take ((n + 1) * 7) = F.take (7 * i) ++ (E ++ F.drop (7 * i)) := by
  have hLl : (n + 1) * 7 ≤ L.length := by
    have := congrArg List.length hL
    rw [List.length_take, List.length_append, hF, hE] at this
    omega
  rcases Nat.lt_or_ge i n with hin | hin
  · have ho := ho hin
    subst ho
    have hDl : D.length = (n - i) * 7 := by rw [hD, List.length_drop, hF]; omega
    have ht : (L.take ((i + 1) * 7)).length = (i + 1) * 7 := by rw [List.length_take]; omega
    have e1 : L1.take (i * 7) = F.take (7 * i) := by
      rw [h1, List.take_append_of_le_length (by rw [ht]; omega), List.take_take, show min (i * 7) ((i + 1) * 7) = min (i * 7) ((n + 1) * 7) by omega, ← List.take_take, hL, List.take_append_of_le_length (by rw [hF]; omega), Nat.mul_comm]
    have e2 : L1.drop (i * 7 + E.length) = D ++ L.drop ((i + 1) * 7 + D.length) := by
      rw [h1, hE, show i * 7 + 7 = (L.take ((i + 1) * 7)).length by rw [ht]; omega, List.drop_left']
      rfl
    rw [h2, e1, e2, ← List.append_assoc, ← List.append_assoc]
    rw [List.take_append_of_le_length (by simp [hF, hE, hDl]; omega), List.take_of_length_le (by simp [hF, hE, hDl]; omega), List.append_assoc, hD]
  · obtain rfl : i = n := by omega
    have hDn : D = [] := by rw [hD]; exact List.drop_eq_nil_of_le (by omega)
    subst hDn
    have e0 : L1 = L := by rw [h1]; simp
    have e1 : L1.take (i * 7) = F := by
      rw [e0]
      have := congrArg (List.take (i * 7)) hL
      rw [List.take_take, List.take_append_of_le_length (by omega), List.take_of_length_le (by omega : F.length ≤ i * 7), show min (i * 7) ((i + 1) * 7) = i * 7 by omega] at this
      exact this
    rw [h2, e1, List.take_of_length_le (show F.length ≤ 7 * i by omega), List.drop_eq_nil_of_le (show F.length ≤ 7 * i by omega), List.append_nil, ← List.append_assoc, List.take_append_of_le_length (by simp [hF, hE]; omega), List.take_of_length_le (by simp [hF, hE]; omega)]
theorem HoS.ne {w : World} {B bh r : Nat} {l : List Opn} {v : Value} (h : HoS w B bh r l v) : v.ownBlock ≠ some bh := by
  intro e
  rcases h.row.2 with ⟨rfl, _⟩ | ⟨g, cap, cur, rfl, _, hg, _⟩
  · cases e
  · simp [Value.ownBlock] at e
    subst e
    have := h.box
    rw [hg] at this
    simp at this
/-- What is between the steps of Add: a row of one more. -/
structure MidA (w : World) (B bh r : Nat) (l : List Opn) (v : Value) (o : Opn) (H : Nat) (W : World) (g n c : Nat) : Prop where
  box : W.heap[bh]? = some (.cells #[.int .i64 (r : Int), .slice (some ⟨g, 0, none⟩) (n + 1) c] 132 (0, 0))
  row : W.ownsRow B 34 7 (.slice (some ⟨g, 0, none⟩) (n + 1) c) (n + 1) (flatP l ++ encP o)
  op : W.heap[H]? = some (bxP o)
  chg : Chg w W (OwnH bh v)
  lies : LiesB w v (.slice (some ⟨g, 0, none⟩) (n + 1) c)
  ne : g ≠ H
theorem mid_of {w W0 V w1 : World} {B bh r : Nat} {l : List Opn} {o : Opn} {a : Option Addr} {n cap H g c : Nat} (h : HoS w B bh r l (.slice a n cap)) (hV : HoS V B bh r l (.slice a n cap)) (hb : Below w.heap.size w V) (hbx : V.heap[H]? = some (bxP o)) (hH : w.heap.size ≤ H)
    (hown : w1.ownsRow B 34 7 (.slice (some ⟨g, 0, none⟩) (n + 1) c) (n + 1) (flatP l ++ encP o)) (hgrow : V.grownBy w1 (Value.slice a n cap).ownBlock) (hat : (Value.slice a n cap).ownBlock = some g ∨ g = V.heap.size) :
    MidA w B bh r l (.slice a n cap) o H (w1.setCell ⟨bh, 1, none⟩ (.slice (some ⟨g, 0, none⟩) (n + 1) c)) g n c := by
  have hne := hV.ne
  have e1 : some bh ≠ (Value.slice a n cap).ownBlock := fun e => hne e.symm
  have hbl := (Array.getElem?_eq_some_iff.1 hV.box).1
  have hw1 := (hgrow.block bh hbl e1).trans hV.box
  have hgb : g ≠ bh := by
    rcases hat with h1 | h1
    · intro e; rw [e] at h1; exact hne h1
    · omega
  have hHk : (Value.slice a n cap).ownBlock ≠ some H := fun e => by
    have := (h.row.lt H e).2
    omega
  have hHb : H ≠ bh := by
    have := (Array.getElem?_eq_some_iff.1 h.box).1
    omega
  have hc := cg_set w1 bh 1 (.slice (some ⟨g, 0, none⟩) (n + 1) c)
  refine ⟨?_, cg_own hc hown (fun k hk q => ?_), ?_, ?_, ?_, ?_⟩
  · rw [heap_setX w1 bh 1 _ _ _ _ hw1]; simp
  · simp [Value.ownBlock] at hk; omega
  · exact cg_heap hc ((hgrow.block H (Array.getElem?_eq_some_iff.1 hbx).1 (fun e => hHk e.symm)).trans hbx) hHb
  · exact cg_trans (cg_trans (cg_below hb (OwnH bh (.slice a n cap))) (cg_gb hgrow) (fun k _ q => .inr q)) hc (fun k _ q => .inl q)
  · intro k hk
    simp [Value.ownBlock] at hk
    subst hk
    rcases hat with h1 | h1
    · exact .inl h1
    · exact .inr (by rw [h1]; exact hb.size)
  · intro e
    have h3 := (Array.getElem?_eq_some_iff.1 hbx).1
    rcases hat with h1 | h1
    · exact hHk (by rw [h1, e])
    · omega
theorem MidA.cur {w W : World} {B bh r : Nat} {l : List Opn} {v : Value} {o : Opn} {H g n c : Nat} (h : MidA w B bh r l v o H W g n c) : ∃ cur : Array Value, B ≤ g ∧ W.heap[g]? = some (.cells cur 34 (0, 0)) ∧ n + 1 ≤ c ∧ c ≤ 9223372036854775807 ∧ cur.size = c * 7 ∧ cur.toList.take ((n + 1) * 7) = flatP l ++ encP o := by
  rcases h.row.2 with ⟨h0, _⟩ | ⟨g', cap', cur, hv, hb, hg, hn, hm, hs, ht⟩
  · cases h0
  · cases hv
    exact ⟨cur, hb, hg, hn, by simpa [maxLen] using hm, hs, ht⟩
theorem copyA {W : World} {g n c i o1 : Nat} {cur : Array Value} {l : List Opn} {E D : List Value} (hg : W.heap[g]? = some (.cells cur 34 (0, 0))) (hs : cur.size = c * 7) (ht : cur.toList.take ((n + 1) * 7) = flatP l ++ E) (hn : n = l.length) (hi : i ≤ n) (hnc : n + 1 ≤ c)
    (hD : D = (flatP l).drop (7 * i)) (ho : o1 = if c = i + 1 then 0 else (i + 1) * 7) :
    ∀ ty dc sc, (Builtin.copy_ #[22, 22] ty #[.slice (some ⟨g, o1, none⟩) (n - i) dc, .slice (some ⟨g, i * 7, none⟩) (n + 1 - i) sc]).run Try.prog W.drew = .ok (goInt ((n - i : Nat) : Int)) (W.drew.setCells g o1 D) := by
  intro ty dc sc
  have hFl : (flatP l).length = 7 * n := by rw [flatP_len, hn]
  have hDl : D.length = (n - i) * 7 := by rw [hD, List.length_drop, hFl]; omega
  refine run_copyK W.drew _ _ ty 34 7 g o1 (n - i) dc ⟨g, i * 7, none⟩ (n + 1 - i) sc (n - i) D Try.underlying22 (by kernel_rfl) (by simp only [Nat.min_def]; split <;> omega) hDl ?_ ?_ ?_ ?_
  · intro j v hj
    rw [add_lit14]
    have hlt : j < D.length := (List.getElem?_eq_some_iff.1 hj).1
    have hc : W.drew.cell? ⟨g, i * 7 + j, none⟩ = cur[i * 7 + j]? := cell_of_row W g (i * 7 + j) _ _ _ hg
    rw [hc]
    have h2 : cur.toList[i * 7 + j]? = (cur.toList.take ((n + 1) * 7))[i * 7 + j]? := by rw [List.getElem?_take, if_pos (by omega)]
    rw [← Array.getElem?_toList, h2, ht, List.getElem?_append_left (by omega), show i * 7 + j = 7 * i + j by omega]
    rw [hD, List.getElem?_drop] at hj
    exact hj
  · intro j hj
    have hc : W.drew.cell? ⟨g, o1 + j, none⟩ = cur[o1 + j]? := cell_of_row W g (o1 + j) _ _ _ hg
    rw [hc, Array.getElem?_eq_getElem (by
      have : i < n := by
        rcases Nat.lt_or_ge i n with q | q
        · exact q
        · rw [hDl, show n - i = 0 by omega] at hj; omega
      rw [if_neg (by omega)] at ho
      omega)]
    rfl
  · intro j hj
    exact Lib.frozen_of_heap (w := W.drew) hg _
  · intro v hv
    rw [hD] at hv
    exact flatP_cells l v (List.mem_of_mem_drop hv)
theorem MidA.apart {w W : World} {B bh r : Nat} {l : List Opn} {v : Value} {o : Opn} {H g n c : Nat} (h : MidA w B bh r l v o H W g n c) : g ≠ bh ∧ g ≠ H := by
  obtain ⟨cur, hbg, hg, _⟩ := h.cur
  refine ⟨fun e => ?_, h.ne⟩
  have := h.box
  rw [← e, hg] at this
  simp at this
/-- What Add leaves. -/
def AddQ (w : World) (B bh r : Nat) (l : List Opn) (v : Value) (o : Opn) (w' : World) : Prop :=
  ∃ v', HoS w' B bh r (addK l r o) v' ∧ LiesB w v v' ∧ Chg w w' (OwnH bh v)
theorem setCells_op (w : World) (g k : Nat) (o : Opn) : w.setCells g k (encP o) = ((((((w.setCell ⟨g, k, none⟩ (.int .i64 o.c)).setCell ⟨g, k + 1, none⟩ (.int .i64 o.a)).setCell ⟨g, k + 2, none⟩ (.int .i64 o.s)).setCell ⟨g, k + 3, none⟩ (.bool o.ins)).setCell ⟨g, k + 4, none⟩ (.int .i64 o.rc)).setCell ⟨g, k + 5, none⟩ (.int .i64 o.ra)).setCell ⟨g, k + 6, none⟩ (.int .i32 o.ch) := rfl
set_option maxHeartbeats 1000000 in
theorem MidA.behind {w W : World} {B bh r : Nat} {l : List Opn} {v : Value} {o : Opn} {H g n c i o1 : Nat} {D : List Value} (h : MidA w B bh r l v o H W g n c) (ho : o1 = if c = i + 1 then 0 else (i + 1) * 7) (hn : n = l.length) (hi : i ≤ n) (hD : D = (flatP l).drop (7 * i)) :
    ∃ cur : Array Value, (W.drew.setCells g o1 D).cell? ⟨bh, 1, none⟩ = some (.slice (some ⟨g, 0, none⟩) (n + 1) c) ∧ (W.drew.setCells g o1 D).heap[g]? = some (.cells cur 34 (0, 0)) ∧ (W.drew.setCells g o1 D).heap[H]? = some (bxP o) ∧ n + 1 ≤ c ∧ c ≤ 9223372036854775807 ∧ cur.size = c * 7 ∧
      ∀ W' : World, Below (W.drew.setCells g o1 D).heap.size (W.drew.setCells g o1 D) W' → (hasK l o.a o.s = false) → AscK l → n < r → B ≤ bh → FindP l o i → addK l r o = putK l o → AddQ w B bh r l v o (W'.setCells g (i * 7) (encP o)) := by
  obtain ⟨cur, hbg, hg, hnc, hm, hs, ht⟩ := h.cur
  have hg1 : (W.drew.setCells g o1 D).heap[g]? = some (.cells (setL cur o1 D) 34 (0, 0)) := heap_setCells g D o1 W.drew cur _ _ hg
  have hgb : g ≠ bh := fun e => by
    have := h.box
    rw [← e, hg] at this
    simp at this
  have hgH : g ≠ H := h.ne
  obtain ⟨s1, s2, s3, s4⟩ := size_setCells g D o1 W.drew
  have hFl : (flatP l).length = 7 * n := by rw [flatP_len, hn]
  have hDl : D.length = (n - i) * 7 := by rw [hD, List.length_drop, hFl]; omega
  refine ⟨setL cur o1 D, ?_, hg1, ?_, hnc, hm, by rw [setL_size, hs], ?_⟩
  · refine cell_of_row _ bh 1 _ _ _ ((heap_setCells_other g bh (fun e => hgb e.symm) D o1 W.drew).trans h.box)
  · exact (heap_setCells_other g H (fun e => hgH e.symm) D o1 W.drew).trans h.op
  · intro W' hW' hno hasc hnr hBb hf hk
    have hg2 := bel_heap hW' hg1
    have hg3 := heap_setCells g (encP o) (i * 7) W' _ _ _ hg2
    obtain ⟨r1, r2, r3, r4⟩ := size_setCells g (encP o) (i * 7) W'
    have hfl : flatP (putK l o) = (flatP l).take (7 * i) ++ (encP o ++ (flatP l).drop (7 * i)) := by
      rw [← hf.2.1 hno, flatP_app, flatP_cons, (flatP_take l i (by omega)).1, (flatP_take l i (by omega)).2]
    have hlen : (putK l o).length = n + 1 := by rw [putK_len, hn]
    have hc1 : Chg W (W.drew.setCells g o1 D) (fun k => k = g) := ⟨by rw [s2]; rfl, by rw [s3]; rfl, by rw [s4]; rfl, by rw [s1]; exact Nat.le_refl _, fun k _ hq => (heap_setCells_other g k hq D o1 W.drew).trans rfl⟩
    have hc2 : Chg W' (W'.setCells g (i * 7) (encP o)) (fun k => k = g) := ⟨r2, r3, r4, by rw [r1]; exact Nat.le_refl _, fun k _ hq => heap_setCells_other g k hq (encP o) (i * 7) W'⟩
    have hc3 : Chg w (W'.setCells g (i * 7) (encP o)) (OwnH bh v) := by
      have hcc : Chg W (W'.setCells g (i * 7) (encP o)) (fun k => k = g) := cg_trans (cg_trans hc1 (cg_below hW' (fun k => k = g)) (fun _ _ q => q)) hc2 (fun _ _ q => q)
      refine cg_trans h.chg hcc (fun k hk q => ?_)
      subst q
      rcases h.lies k rfl with q | q
      · exact .inr q
      · omega
    refine ⟨.slice (some ⟨g, 0, none⟩) (n + 1) c, ?_, h.lies, hc3⟩
    rw [hk]
    refine ⟨hBb, ?_, ⟨by rw [flatP_len]; omega, .inr ⟨g, c, _, by rw [hlen], hbg, hg3, by rw [hlen]; exact hnc, by unfold maxLen; omega, by rw [setL_size, setL_size, hs], ?_⟩⟩, putK_asc l o hasc hno, by rw [hlen]; omega⟩
    · have hb6 : (W.drew.setCells g o1 D).heap[bh]? = some (.cells #[.int .i64 (r : Int), .slice (some ⟨g, 0, none⟩) (n + 1) c] 132 (0, 0)) := (heap_setCells_other g bh (fun e => hgb e.symm) D o1 W.drew).trans h.box
      exact (heap_setCells_other g bh (fun e => hgb e.symm) (encP o) (i * 7) W').trans (bel_heap hW' hb6)
    · rw [hlen, hfl]
      have ho1 : o1 + D.length ≤ c * 7 := by
        rcases Nat.lt_or_ge i n with q | q
        · rw [if_neg (by omega)] at ho; omega
        · rw [hDl, ho]
          split <;> omega
      refine shiftP cur.toList (flatP l) (encP o) D n i o1 hi hFl rfl hD ht (fun q => by rw [ho, if_neg (by omega)]) (setL cur o1 D).toList _ ?_ ?_
      · rw [setL_list D cur _ (by omega)]
      · rw [setL_list (encP o) _ _ (by rw [setL_size, hs]; show i * 7 + 7 ≤ c * 7; omega)]
set_option maxRecDepth 100000 in
set_option maxHeartbeats 8000000 in
theorem addK_any {B bh r : Nat} {l : List Opn} {v : Value} (w : World) (o : Opn) (h : HoS w B bh r l v) (hl : l.length ≤ 100000) (hr : (r : Int) ≤ 9223372036854775807) :
    Calls Try.prog 46 #[.pointer (some ⟨bh, 0, none⟩), o.val] w fun e w' => e = .returned (.int .i64 (addE l r o)) ∧ AddQ w B bh r l v o w' := by
  obtain ⟨a, cap, rfl, g1, g2, g3, g4⟩ := h.rd
  obtain ⟨n, hn⟩ : ∃ n, n = l.length := ⟨_, rfl⟩
  rw [← hn] at g1 g3 h ⊢
  obtain ⟨W0, hW0⟩ : ∃ W0, W0 = w.alloc (bxP o) := ⟨_, rfl⟩
  obtain ⟨H, hH⟩ : ∃ H, H = w.heap.size := ⟨_, rfl⟩
  have hb0 : Below w.heap.size w W0 := by rw [hW0]; exact (Below.refl _ w).alloc (Nat.le_refl _) _
  have hbx : W0.heap[H]? = some (bxP o) := by rw [hW0, hH]; exact heap_alloc_new w _
  have HV : Hid (∀ V : World, Below W0.heap.size W0 V → HoS V B bh r l (.slice a n cap) ∧ V.heap[H]? = some (bxP o) ∧ Below w.heap.size w V) := fun V hV => ⟨h.later (hb0.trans (hV.mono hb0.size)), bel_heap hV hbx, hb0.trans (hV.mono hb0.size)⟩
  have HH0 : Hid (HoS w B bh r l (.slice a n cap)) := h
  have HFIND : Hid (∀ V : World, Below W0.heap.size W0 V → Calls Try.prog 92 #[.slice a n cap, o.val] V fun e w' => ∃ i : Nat, FindP l o i ∧ e = .returned (.tuple #[.int .i64 i, .bool (hasK l o.a o.s)]) ∧ Below W0.heap.size W0 w') := fun V hV => (findK_any l o a n cap V h.asc (g3.later (hb0.trans (hV.mono hb0.size))) (by omega)).mono (by
    rintro e w' ⟨i, hi, rfl, hb⟩
    exact ⟨i, hi, rfl, hV.trans (hb.mono hV.size)⟩)
  have HROOM : Hid (∀ V : World, Below W0.heap.size W0 V → Calls Try.prog 52 #[.pointer (some ⟨bh, 0, none⟩)] V fun e w' => e = .returned (.int .i64 ((r : Int) - (n : Int))) ∧ Below W0.heap.size W0 w') := fun V hV => (roomK_any V (h.later (hb0.trans (hV.mono hb0.size))) hr).mono (by
    rintro e w' ⟨rfl, rfl⟩
    exact ⟨by rw [hn], hV.drew⟩)
  have HC : Hid (∀ V : World, Below W0.heap.size W0 V → V.cell? ⟨bh, 1, none⟩ = some (.slice a n cap) ∧ V.cell? ⟨H, 0, none⟩ = some (.int .i64 o.c) ∧ V.cell? ⟨H, 1, none⟩ = some (.int .i64 o.a) ∧ V.cell? ⟨H, 2, none⟩ = some (.int .i64 o.s) ∧ V.cell? ⟨H, 3, none⟩ = some (.bool o.ins) ∧ V.cell? ⟨H, 4, none⟩ = some (.int .i64 o.rc) ∧ V.cell? ⟨H, 5, none⟩ = some (.int .i64 o.ra) ∧ V.cell? ⟨H, 6, none⟩ = some (.int .i32 o.ch)) := fun V hV =>
    ⟨(HV.out V hV).1.cells.2.1, opAt_box (HV.out V hV).2.1⟩
  have HLN : Hid (n = l.length) := hn
  have HRM : Hid (n ≤ r) := by have := h.room; show n ≤ r; omega
  have hnl : n ≤ 100000 := by omega
  have HBB : Hid (B ≤ W0.heap.size ∧ w.heap.size ≤ H) := ⟨by have := (h.lt bh (.inl rfl)); have := hb0.size; omega, by omega⟩
  have HADDE : Hid (addE l r o = if hasK l o.a o.s = true then 0 else if l.length < r then 0 else 8) := rfl
  have HADDK : Hid (addK l r o = if hasK l o.a o.s = true then l else if l.length < r then putK l o else l) := rfl
  generalize addE l r o = E at HADDE ⊢
  have HQ : Hid (∃ Q : World → Prop, Q = AddQ w B bh r l (.slice a n cap) o) := ⟨_, rfl⟩
  obtain ⟨Q, hQ⟩ := HQ.out
  have HQQ : Hid (∀ w', AddQ w B bh r l (.slice a n cap) o w' → Q w') := fun w' q => by rw [hQ]; exact q
  show Calls _ _ _ _ fun e w' => e = .returned (.int .i64 E) ∧ AddQ w B bh r l (.slice a n cap) o w'
  rw [← hQ]
  clear HQ hQ h hn hl hr hb0 hbx g3 g4 g1
  cases hz : hasK l o.a o.s
  · rw [hz] at HFIND HADDE HADDK
    have HZ : Hid (hasK l o.a o.s = false) := hz
    clear hz
    obtain ⟨c0, b0, b1, b2, b3, b4, b5, b6⟩ := HC.out W0.drew ((Below.refl _ W0).drew)
    obtain ⟨OP, hOP⟩ : ∃ OP, OP = o := ⟨_, rfl⟩
    rw [← hOP] at HFIND HADDK HQQ HV HZ
    have HOP : Hid (OP = o) := hOP
    clear hOP
    obtain ⟨oc, oa, os, oi, orc, ora, och⟩ := o
    simp only at b0 b1 b2 b3 b4 b5 b6
    have HFIND2 : Hid (∀ V : World, Below W0.heap.size W0 V → Calls Try.prog 92 #[.slice a n cap, .agg #[.int .i64 oc, .int .i64 oa, .int .i64 os, .bool oi, .int .i64 orc, .int .i64 ora, .int .i32 och]] V fun e w' => ∃ i : Nat, FindP l OP i ∧ e = .returned (.tuple #[.int .i64 i, .bool false]) ∧ Below W0.heap.size W0 w') := fun V hV => by
      have := HFIND.out V hV
      rw [HOP.out] at this ⊢
      exact this
    clear HFIND
    simp only [Opn.val]
    go_enter Try.func46, Try.ntmps46
    go_upto_region 1 with fail
    rw [← hH, ← hW0]
    clear hH hW0
    refine wp_region_noPanic ?_
    refine wp_region_held_drew (S := (fun w' => w'.cell? ⟨bh, 1, none⟩ = some (.slice a n cap) ∧ w'.cell? ⟨H, 0, none⟩ = some (.int .i64 oc) ∧ w'.cell? ⟨H, 1, none⟩ = some (.int .i64 oa) ∧ w'.cell? ⟨H, 2, none⟩ = some (.int .i64 os) ∧ w'.cell? ⟨H, 3, none⟩ = some (.bool oi) ∧ w'.cell? ⟨H, 4, none⟩ = some (.int .i64 orc) ∧ w'.cell? ⟨H, 5, none⟩ = some (.int .i64 ora) ∧ w'.cell? ⟨H, 6, none⟩ = some (.int .i32 och))) (by kernel_rfl) (⟨c0, b0, b1, b2, b3, b4, b5, b6⟩) (fun hHeld => ?_)
    clear c0 b0 b1 b2 b3 b4 b5 b6
    refine wpAnyH_take (i := 0) (v := ?_) rfl (by kernel_rfl) (by kernel_rfl) (by kernel_rfl) (fun _ _ _ h => h) (Or.inl ⟨by rfl, ?_⟩) (by assumption) ?_
    rotate_left
    · intro W' hSw; obtain ⟨s0, s1, s2, s3, s4, s5, s6, s7⟩ := hSw; go_simp; try with_reducible rfl
    try simp only [Act.put, List.getElem_toArray, List.getElem_cons_succ, List.getElem_cons_zero, List.setIfInBounds_toArray, List.set_cons_zero, List.set_cons_succ]
    refine wpAnyH_take (i := 1) (v := ?_) rfl (by kernel_rfl) (by kernel_rfl) (by kernel_rfl) (fun _ _ _ h => h) (Or.inl ⟨by rfl, ?_⟩) (by assumption) ?_
    rotate_left
    · intro W' hSw; obtain ⟨s0, s1, s2, s3, s4, s5, s6, s7⟩ := hSw; go_simp; try with_reducible rfl
    try simp only [Act.put, List.getElem_toArray, List.getElem_cons_succ, List.getElem_cons_zero, List.setIfInBounds_toArray, List.set_cons_zero, List.set_cons_succ]
    refine wpAnyH_take (i := 2) (v := ?_) rfl (by kernel_rfl) (by kernel_rfl) (by kernel_rfl) (fun _ _ _ h => h) (Or.inl ⟨by rfl, ?_⟩) (by assumption) ?_
    rotate_left
    · intro W' hSw; obtain ⟨s0, s1, s2, s3, s4, s5, s6, s7⟩ := hSw; go_simp; try with_reducible rfl
    try simp only [Act.put, List.getElem_toArray, List.getElem_cons_succ, List.getElem_cons_zero, List.setIfInBounds_toArray, List.set_cons_zero, List.set_cons_succ]
    refine wpAnyH_take (i := 3) (v := ?_) rfl (by kernel_rfl) (by kernel_rfl) (by kernel_rfl) (fun _ _ _ h => h) (Or.inl ⟨by rfl, ?_⟩) (by assumption) ?_
    rotate_left
    · intro W' hSw; obtain ⟨s0, s1, s2, s3, s4, s5, s6, s7⟩ := hSw; go_simp; try with_reducible rfl
    try simp only [Act.put, List.getElem_toArray, List.getElem_cons_succ, List.getElem_cons_zero, List.setIfInBounds_toArray, List.set_cons_zero, List.set_cons_succ]
    refine wpAnyH_take (i := 4) (v := ?_) rfl (by kernel_rfl) (by kernel_rfl) (by kernel_rfl) (fun _ _ _ h => h) (Or.inl ⟨by rfl, ?_⟩) (by assumption) ?_
    rotate_left
    · intro W' hSw; obtain ⟨s0, s1, s2, s3, s4, s5, s6, s7⟩ := hSw; go_simp; try with_reducible rfl
    try simp only [Act.put, List.getElem_toArray, List.getElem_cons_succ, List.getElem_cons_zero, List.setIfInBounds_toArray, List.set_cons_zero, List.set_cons_succ]
    refine wpAnyH_ready (rs := [5]) (by kernel_rfl) (by simp) ?_
    refine AllReadyH.cons rfl (fun KK hK => ?_) AllReadyH.nil
    go_simp
    refine (HFIND2.out _ ((Below.refl _ W0).drew)).mono ?_
    rintro e w2 ⟨i, hi, rfl, hg⟩
    have HI : Hid (FindP l OP i) := hi
    have HB2 : Hid (Below W0.heap.size W0 w2) := hg
    have hc := HC.out w2 hg
    simp only at hc
    clear hi hg
    refine hK.out _ _ hc (fun hHeld => ?_)
    clear hK KK
    try simp only [Act.put, List.getElem_toArray, List.getElem_cons_succ, List.getElem_cons_zero, List.setIfInBounds_toArray, List.set_cons_zero, List.set_cons_succ]
    refine wpAnyH_take (i := 6) (v := ?_) rfl (by kernel_rfl) (by kernel_rfl) (by kernel_rfl) (fun _ _ _ h => h) (Or.inl ⟨by rfl, ?_⟩) (by assumption) ?_
    rotate_left
    · intro W' hSw; obtain ⟨s0, s1, s2, s3, s4, s5, s6, s7⟩ := hSw; go_simp; try with_reducible rfl
    try simp only [Act.put, List.getElem_toArray, List.getElem_cons_succ, List.getElem_cons_zero, List.setIfInBounds_toArray, List.set_cons_zero, List.set_cons_succ]
    refine wpAnyH_take (i := 7) (v := ?_) rfl (by kernel_rfl) (by kernel_rfl) (by kernel_rfl) (fun _ _ _ h => h) (Or.inl ⟨by rfl, ?_⟩) (by assumption) ?_
    rotate_left
    · intro W' hSw; obtain ⟨s0, s1, s2, s3, s4, s5, s6, s7⟩ := hSw; go_simp; try with_reducible rfl
    try simp only [Act.put, List.getElem_toArray, List.getElem_cons_succ, List.getElem_cons_zero, List.setIfInBounds_toArray, List.set_cons_zero, List.set_cons_succ]
    refine wpAnyH_take (i := 8) (v := ?_) rfl (by kernel_rfl) (by kernel_rfl) (by kernel_rfl) (fun _ _ _ h => h) (Or.inl ⟨by rfl, ?_⟩) (by assumption) ?_
    rotate_left
    · intro W' hSw; obtain ⟨s0, s1, s2, s3, s4, s5, s6, s7⟩ := hSw; go_simp; try with_reducible rfl
    try simp only [Act.put, List.getElem_toArray, List.getElem_cons_succ, List.getElem_cons_zero, List.setIfInBounds_toArray, List.set_cons_zero, List.set_cons_succ]
    refine wpAnyH_take (i := 9) (v := ?_) rfl (by kernel_rfl) (by kernel_rfl) (by kernel_rfl) (fun _ _ _ h => h) (Or.inl ⟨by rfl, ?_⟩) (by assumption) ?_
    rotate_left
    · intro W' hSw; obtain ⟨s0, s1, s2, s3, s4, s5, s6, s7⟩ := hSw; go_simp; try with_reducible rfl
    try simp only [Act.put, List.getElem_toArray, List.getElem_cons_succ, List.getElem_cons_zero, List.setIfInBounds_toArray, List.set_cons_zero, List.set_cons_succ]
    refine wpAnyH_ready (rs := [10]) (by kernel_rfl) (by simp) ?_
    refine AllReadyH.cons rfl (fun KK hK => ?_) AllReadyH.nil
    go_simp
    refine hK.out _ _ hHeld (fun hHeld => ?_)
    clear hK KK
    try simp only [Act.put, List.getElem_toArray, List.getElem_cons_succ, List.getElem_cons_zero, List.setIfInBounds_toArray, List.set_cons_zero, List.set_cons_succ]
    refine wpAnyH_done (by kernel_rfl) ?_ _
    refine NoPanic.normal ?_
    clear hHeld
    clear hc
    have hE := HADDE.out
    rw [if_neg (by decide)] at hE
    have hK := HADDK.out
    rw [if_neg (by decide)] at hK
    rw [← HLN.out] at hE hK
    clear HADDE HADDK
    by_cases hfull : n < r
    · rw [if_pos hfull] at hE hK
      subst hE
      have hz0 : ((r : Int) - (n : Int) == 0) = false := by simp; omega
      obtain ⟨i0, ji, jz0, jz1, jz2⟩ := info_parts info_P
      have HJ : Hid (Try.prog.info? 34 = some i0 ∧ i0.zero = some op0.val ∧ i0.size = 7 ∧ i0.bytes = 56) := ⟨ji, jz0, jz1, jz2⟩
      have HFU : Hid (n < r) := hfull
      clear hfull ji jz0 jz1 jz2
      go_upto_region 6 with (go_at_call 52; refine (HROOM.out _ HB2.out).mono ?_; rintro e w3 ⟨rfl, hg⟩; have HB3 : Hid (Below W0.heap.size W0 w3) := hg; clear hg)
      have HB3 := HB3
      have HB3x : Hid (∀ x : Obj, Below W0.heap.size W0 (w3.drew.alloc x)) := fun x => (HB3.out.drew).alloc HB3.out.size x
      have HOW : Hid (∀ V : World, Below W0.heap.size W0 V → V.ownsRow B 34 7 (.slice a n cap) n (flatP l)) := fun V hV => by
        have := (HV.out V hV).1.row
        rw [← HLN.out] at this
        exact this
      have HFAR : Hid (∀ (V V' : World), Below W0.heap.size W0 V → V.grownBy V' (Value.slice a n cap).ownBlock → V'.cell? ⟨bh, 1, none⟩ = some (.slice a n cap) ∧ V'.frozen? ⟨bh, 1, none⟩ = false) := by
        intro V V' hV hg
        have h1 := (HV.out V hV).1
        have e1 : some bh ≠ (Value.slice a n cap).ownBlock := fun e => h1.ne e.symm
        have h2 := (hg.block bh (Array.getElem?_eq_some_iff.1 h1.box).1 e1).trans h1.box
        exact ⟨cell_of_row V' bh 1 _ _ _ h2, Lib.frozen_of_heap h2 _⟩
      have HMID : Hid (∀ (V w1 : World) (g c : Nat), Below W0.heap.size W0 V → w1.ownsRow B 34 7 (.slice (some ⟨g, 0, none⟩) (n + 1) c) (n + 1) (flatP l ++ encP OP) → V.grownBy w1 (Value.slice a n cap).ownBlock → ((Value.slice a n cap).ownBlock = some g ∨ g = V.heap.size) → MidA w B bh r l (.slice a n cap) OP H (w1.setCell ⟨bh, 1, none⟩ (.slice (some ⟨g, 0, none⟩) (n + 1) c)) g n c) := fun V w1 g c hV q1 q2 q3 => mid_of (W0 := W0) HH0.out (HV.out V hV).1 (HV.out V hV).2.2 (HV.out V hV).2.1 HBB.out.2 q1 q2 q3
      have HEN : Hid (encP OP = [.int .i64 oc, .int .i64 oa, .int .i64 os, .bool oi, .int .i64 orc, .int .i64 ora, .int .i32 och]) := by rw [HOP.out]; rfl
      have hcc := HC.out w3 HB3.out
      obtain ⟨c0, b0, b1, b2, b3, b4, b5, b6⟩ := hcc
      try simp only at b0 b1 b2 b3 b4 b5 b6
      have d0 := (HC.out (w3.alloc (.cells #[.int .i64 oc, .int .i64 oa, .int .i64 os, .bool oi, .int .i64 orc, .int .i64 ora, .int .i32 och] 34)) (HB3.out.alloc HB3.out.size _)).1
      go_cut [27] (fun x27 wx => ∃ g c, MidA w B bh r l (.slice a n cap) OP H wx g n c)
      case first =>
        go_region_law (refine step_append_lies _ (by rfl) _ _ 22 (by rfl) B 34 i0 _ 7 56 Try.underlying22 HJ.out.1 HJ.out.2.1 HJ.out.2.2.1 HJ.out.2.2.2 rfl (by decide) (.slice a n cap) n (flatP l) (by rfl) (HOW.out _ (HB3x.out _)) ⟨w3.heap.size, 0, none⟩ 1 1 [.int .i64 oc, .int .i64 oa, .int .i64 os, .bool oi, .int .i64 orc, .int .i64 ora, .int .i32 och] (by rfl) (by rfl) (World.news_of_block (cs := #[.int .i64 oc, .int .i64 oa, .int .i64 os, .bool oi, .int .i64 orc, .int .i64 ora, .int .i32 och]) (t := 34) (fr := (0, 0)) (heap_alloc_new w3.drew _)) (by simp [Value.oneCell']) (by omega) (by unfold maxLen; omega) (by omega) (by have := HBB.out.1; have := HB3.out.size; simp; omega) _ rfl ?_; intro g c w4 hown hgrow hat hlt; have hfar := HFAR.out _ _ (HB3x.out _) hgrow; have hcz := hfar.1; have hfz := hfar.2; clear hfar)
        all_goals
          go_wp2
          go_meet
          case rel => exact ⟨g, c, HMID.out _ w4 g c (HB3x.out _) (by rw [HEN.out]; exact hown) hgrow hat⟩
      case rest =>
        rename World => W5
        obtain ⟨g, c, HM⟩ := hcut
        clear c0 b0 b1 b2 b3 b4 b5 b6 d0
        have HMM : Hid (MidA w B bh r l (.slice a n cap) OP H W5 g n c) := HM
        obtain ⟨cur, hbg, hg, hnc, hm, hs, ht⟩ := HM.cur
        have hin : i ≤ n := by have := HI.out.1; have := HLN.out; omega
        obtain ⟨o1, ho1⟩ : ∃ o1, o1 = if c = i + 1 then 0 else (i + 1) * 7 := ⟨_, rfl⟩
        obtain ⟨D, hD⟩ : ∃ D, D = (flatP l).drop (7 * i) := ⟨_, rfl⟩
        have hcp := copyA hg hs ht HLN.out hin hnc hD ho1
        have c3 : ∀ W, (Instr.slice 22 (.slice (some ⟨g, 0, none⟩) (n + 1) c) (some (.int .i64 ((i : Int) + 1))) none none).run Try.prog W = .ok (.slice (some ⟨g, o1, none⟩) (n - i) (c - (i + 1))) W := fun W => by
          have := cutP_from g (n + 1) c (i + 1) (by omega) (by omega) W
          rw [← ho1, Int.natCast_add, show n + 1 - (i + 1) = n - i by omega] at this
          exact this
        have c4 : ∀ W, (Instr.slice 22 (.slice (some ⟨g, 0, none⟩) (n + 1) c) (some (.int .i64 i)) none none).run Try.prog W = .ok (.slice (some ⟨g, i * 7, none⟩) (n + 1 - i) (c - i)) W := fun W => by
          have := cutP_from g (n + 1) c i (by omega) (by omega) W
          rw [if_neg (by omega)] at this
          exact this
        have c1 : W5.cell? ⟨bh, 1, none⟩ = some (.slice (some ⟨g, 0, none⟩) (n + 1) c) := cell_of_row W5 bh 1 _ _ _ HM.box
        have hw1 : IntKind.i64.wrap ((i : Int) + 1) = (i : Int) + 1 := by rw [IntKind.wrap_i64]; omega
        have hO1 : Hid (o1 = if c = i + 1 then 0 else (i + 1) * 7) := ho1
        have HD : Hid (D = (flatP l).drop (7 * i)) := hD
        clear hbg hg hnc hm hs ht hD ho1 HM
        go_upto_region 7 with fail
        go_cut [43] (fun x43 wx => wx = W5.drew.setCells g o1 D)
        case first =>
          go_region_law (refine step_copy_runI rfl _ _ 22 22 rfl _ _ (by simp [Act.eval, Act.put]) (by simp [Act.eval, Act.put]) (hcp _ _ _) ?_)
          all_goals
            go_wp2
            go_meet
            case rel => rfl
        case rest =>
          have HGB : Hid (g ≠ bh ∧ g ≠ H) := HMM.out.apart
          have HBE := HMM.out.behind hO1.out HLN.out hin HD.out
          rw [← hcut] at HBE
          obtain ⟨cur, e0, e1, e2, e3, e4, e5, HBE⟩ := HBE
          rename World => W6
          clear c1 c3 c4 hw1 hcut hcp
          obtain ⟨b0, b1, b2, b3, b4, b5, b6⟩ := opAt_box e2
          rw [HOP.out] at b0 b1 b2 b3 b4 b5 b6
          try simp only at b0 b1 b2 b3 b4 b5 b6
          have HTH : Hid (W6.drew.there g (i * 7) 7) := fun j hj => by
            refine ⟨?_, Lib.frozen_of_heap (w := W6.drew) e1 _⟩
            have : W6.drew.cell? ⟨g, i * 7 + j, none⟩ = cur[i * 7 + j]? := cell_of_row W6 g (i * 7 + j) _ _ _ e1
            rw [this, Array.getElem?_eq_getElem (by omega)]
            rfl
          have hlt : (i : Int) < (n : Int) + 1 := by omega
          have HEND : Hid (Q (W6.drew.setCells g (i * 7) (encP OP))) := HQQ.out _ (HBE W6.drew (Below.refl _ W6).drew HZ.out HH0.out.asc HFU.out HH0.out.low HI.out hK)
          rw [HEN.out] at HEND
          clear e1 e2 e3 e4 e5 HBE hK
          go_upto_region 8 with fail
          have HSW : Hid (∀ V : World, (fun w' : World => w'.cell? ⟨bh, 1, none⟩ = some (.slice (some ⟨g, 0, none⟩) (n + 1) c) ∧ w'.cell? ⟨H, 0, none⟩ = some (.int .i64 oc) ∧ w'.cell? ⟨H, 1, none⟩ = some (.int .i64 oa) ∧ w'.cell? ⟨H, 2, none⟩ = some (.int .i64 os) ∧ w'.cell? ⟨H, 3, none⟩ = some (.bool oi) ∧ w'.cell? ⟨H, 4, none⟩ = some (.int .i64 orc) ∧ w'.cell? ⟨H, 5, none⟩ = some (.int .i64 ora) ∧ w'.cell? ⟨H, 6, none⟩ = some (.int .i32 och)) V → (fun w' : World => w'.cell? ⟨bh, 1, none⟩ = some (.slice (some ⟨g, 0, none⟩) (n + 1) c) ∧ w'.cell? ⟨H, 0, none⟩ = some (.int .i64 oc) ∧ w'.cell? ⟨H, 1, none⟩ = some (.int .i64 oa) ∧ w'.cell? ⟨H, 2, none⟩ = some (.int .i64 os) ∧ w'.cell? ⟨H, 3, none⟩ = some (.bool oi) ∧ w'.cell? ⟨H, 4, none⟩ = some (.int .i64 orc) ∧ w'.cell? ⟨H, 5, none⟩ = some (.int .i64 ora) ∧ w'.cell? ⟨H, 6, none⟩ = some (.int .i32 och)) (V.setCells g (i * 7) (#[.int .i64 oc, .int .i64 oa, .int .i64 os, .bool oi, .int .i64 orc, .int .i64 ora, .int .i32 och] : Array Value).toList)) := fun V q => ⟨(World.cell?_setCells_out g _ _ V _ (fun e => absurd e.symm HGB.out.1)).trans q.1, (World.cell?_setCells_out g _ _ V _ (fun e => absurd e.symm HGB.out.2)).trans q.2.1, (World.cell?_setCells_out g _ _ V _ (fun e => absurd e.symm HGB.out.2)).trans q.2.2.1, (World.cell?_setCells_out g _ _ V _ (fun e => absurd e.symm HGB.out.2)).trans q.2.2.2.1, (World.cell?_setCells_out g _ _ V _ (fun e => absurd e.symm HGB.out.2)).trans q.2.2.2.2.1, (World.cell?_setCells_out g _ _ V _ (fun e => absurd e.symm HGB.out.2)).trans q.2.2.2.2.2.1, (World.cell?_setCells_out g _ _ V _ (fun e => absurd e.symm HGB.out.2)).trans q.2.2.2.2.2.2.1, (World.cell?_setCells_out g _ _ V _ (fun e => absurd e.symm HGB.out.2)).trans q.2.2.2.2.2.2.2⟩
          refine wp_region_noPanic ?_
          refine wp_region_held_drew (S := (fun w' => w'.cell? ⟨bh, 1, none⟩ = some (.slice (some ⟨g, 0, none⟩) (n + 1) c) ∧ w'.cell? ⟨H, 0, none⟩ = some (.int .i64 oc) ∧ w'.cell? ⟨H, 1, none⟩ = some (.int .i64 oa) ∧ w'.cell? ⟨H, 2, none⟩ = some (.int .i64 os) ∧ w'.cell? ⟨H, 3, none⟩ = some (.bool oi) ∧ w'.cell? ⟨H, 4, none⟩ = some (.int .i64 orc) ∧ w'.cell? ⟨H, 5, none⟩ = some (.int .i64 ora) ∧ w'.cell? ⟨H, 6, none⟩ = some (.int .i32 och))) (by kernel_rfl) (⟨e0, b0, b1, b2, b3, b4, b5, b6⟩) (fun hHeld => ?_)
          clear e0 b0 b1 b2 b3 b4 b5 b6
          refine wpAnyH_take (i := 0) (v := ?_) rfl (by kernel_rfl) (by kernel_rfl) (by kernel_rfl) (fun _ _ _ h => h) (Or.inl ⟨by rfl, ?_⟩) (by assumption) ?_
          rotate_left
          · intro W' hSw; obtain ⟨s0, s1, s2, s3, s4, s5, s6, s7⟩ := hSw; go_simp; try with_reducible rfl
          try simp only [Act.put, List.getElem_toArray, List.getElem_cons_succ, List.getElem_cons_zero, List.setIfInBounds_toArray, List.set_cons_zero, List.set_cons_succ]
          refine wpAnyH_take (i := 1) (v := ?_) rfl (by kernel_rfl) (by kernel_rfl) (by kernel_rfl) (fun _ _ _ h => h) (Or.inl ⟨by rfl, ?_⟩) (by assumption) ?_
          rotate_left
          · intro W' hSw; obtain ⟨s0, s1, s2, s3, s4, s5, s6, s7⟩ := hSw; go_simp; try with_reducible rfl
          try simp only [Act.put, List.getElem_toArray, List.getElem_cons_succ, List.getElem_cons_zero, List.setIfInBounds_toArray, List.set_cons_zero, List.set_cons_succ]
          refine wpAnyH_take (i := 2) (v := ?_) rfl (by kernel_rfl) (by kernel_rfl) (by kernel_rfl) (fun _ _ _ h => h) (Or.inl ⟨by rfl, ?_⟩) (by assumption) ?_
          rotate_left
          · intro W' hSw; obtain ⟨s0, s1, s2, s3, s4, s5, s6, s7⟩ := hSw; go_simp; try with_reducible rfl
          try simp only [Act.put, List.getElem_toArray, List.getElem_cons_succ, List.getElem_cons_zero, List.setIfInBounds_toArray, List.set_cons_zero, List.set_cons_succ]
          refine wpAnyH_take (i := 3) (v := ?_) rfl (by kernel_rfl) (by kernel_rfl) (by kernel_rfl) (fun _ _ _ h => h) (Or.inl ⟨by rfl, ?_⟩) (by assumption) ?_
          rotate_left
          · intro W' hSw; obtain ⟨s0, s1, s2, s3, s4, s5, s6, s7⟩ := hSw; go_simp; try with_reducible rfl
          try simp only [Act.put, List.getElem_toArray, List.getElem_cons_succ, List.getElem_cons_zero, List.setIfInBounds_toArray, List.set_cons_zero, List.set_cons_succ]
          refine wpAnyH_take (i := 4) (v := ?_) rfl (by kernel_rfl) (by kernel_rfl) (by kernel_rfl) (fun _ _ _ h => h) (Or.inl ⟨by rfl, ?_⟩) (by assumption) ?_
          rotate_left
          · intro W' hSw; obtain ⟨s0, s1, s2, s3, s4, s5, s6, s7⟩ := hSw; go_simp; try with_reducible rfl
          try simp only [Act.put, List.getElem_toArray, List.getElem_cons_succ, List.getElem_cons_zero, List.setIfInBounds_toArray, List.set_cons_zero, List.set_cons_succ]
          refine wpAnyH_take (i := 5) (v := ?_) rfl (by kernel_rfl) (by kernel_rfl) (by kernel_rfl) (fun _ _ _ h => h) (Or.inl ⟨by rfl, ?_⟩) (by assumption) ?_
          rotate_left
          · intro W' hSw; obtain ⟨s0, s1, s2, s3, s4, s5, s6, s7⟩ := hSw; go_simp; try with_reducible rfl
          try simp only [Act.put, List.getElem_toArray, List.getElem_cons_succ, List.getElem_cons_zero, List.setIfInBounds_toArray, List.set_cons_zero, List.set_cons_succ]
          refine wpAnyH_take (i := 6) (v := ?_) rfl (by kernel_rfl) (by kernel_rfl) (by kernel_rfl) (fun _ _ _ h => h) (Or.inl ⟨by rfl, ?_⟩) (by assumption) ?_
          rotate_left
          · intro W' hSw; obtain ⟨s0, s1, s2, s3, s4, s5, s6, s7⟩ := hSw; go_simp; try with_reducible rfl
          try simp only [Act.put, List.getElem_toArray, List.getElem_cons_succ, List.getElem_cons_zero, List.setIfInBounds_toArray, List.set_cons_zero, List.set_cons_succ]
          refine wpAnyH_ready (rs := [7]) (by kernel_rfl) (by simp) ?_
          refine AllReadyH.cons rfl (fun KK hK => ?_) AllReadyH.nil
          rw [if_pos (by rfl)]
          refine wp_store_mid 34 (.tmp 50) (.tmp 49) rfl g (i * 7) #[.int .i64 oc, .int .i64 oa, .int .i64 os, .bool oi, .int .i64 orc, .int .i64 ora, .int .i32 och] rfl rfl HTH.out (by kernel_rfl) (by simp [Value.oneCell']) ?_
          refine hK.out _ _ (HSW.out _ hHeld) (fun hHeld2 => ?_)
          clear hK KK
          refine wpAnyH_done (by kernel_rfl) ?_ _
          refine NoPanic.normal ?_
          go_wp2
          go_ret
          exact ⟨rfl, HEND.out⟩
    · rw [if_neg hfull] at hE hK
      subst hE
      have hz0 : ((r : Int) - (n : Int) == 0) = true := by have := HRM.out; simp; omega
      clear hfull
      go_wp2_with (go_at_call 52; refine (HROOM.out _ HB2.out).mono ?_; rintro e w3 ⟨rfl, hg⟩; have HB3 : Hid (Below W0.heap.size W0 w3) := hg; clear hg)
      have HF : Hid (Q w3) := HQQ.out _ ⟨_, by rw [hK]; exact (HV.out _ HB3.out).1, lies_refl _ _, cg_below (HV.out _ HB3.out).2.2 _⟩
      clear hK
      go_ret
      exact ⟨rfl, HF.out⟩
  · rw [hz] at HFIND HADDE HADDK
    have HZ : Hid (hasK l o.a o.s = true) := hz
    clear hz
    obtain ⟨c0, b0, b1, b2, b3, b4, b5, b6⟩ := HC.out W0.drew ((Below.refl _ W0).drew)
    obtain ⟨OP, hOP⟩ : ∃ OP, OP = o := ⟨_, rfl⟩
    rw [← hOP] at HFIND HADDK HQQ HV HZ
    have HOP : Hid (OP = o) := hOP
    clear hOP
    obtain ⟨oc, oa, os, oi, orc, ora, och⟩ := o
    simp only at b0 b1 b2 b3 b4 b5 b6
    have HFIND2 : Hid (∀ V : World, Below W0.heap.size W0 V → Calls Try.prog 92 #[.slice a n cap, .agg #[.int .i64 oc, .int .i64 oa, .int .i64 os, .bool oi, .int .i64 orc, .int .i64 ora, .int .i32 och]] V fun e w' => ∃ i : Nat, FindP l OP i ∧ e = .returned (.tuple #[.int .i64 i, .bool true]) ∧ Below W0.heap.size W0 w') := fun V hV => by
      have := HFIND.out V hV
      rw [HOP.out] at this ⊢
      exact this
    clear HFIND
    simp only [Opn.val]
    go_enter Try.func46, Try.ntmps46
    go_upto_region 1 with fail
    rw [← hH, ← hW0]
    clear hH hW0
    refine wp_region_noPanic ?_
    refine wp_region_held_drew (S := (fun w' => w'.cell? ⟨bh, 1, none⟩ = some (.slice a n cap) ∧ w'.cell? ⟨H, 0, none⟩ = some (.int .i64 oc) ∧ w'.cell? ⟨H, 1, none⟩ = some (.int .i64 oa) ∧ w'.cell? ⟨H, 2, none⟩ = some (.int .i64 os) ∧ w'.cell? ⟨H, 3, none⟩ = some (.bool oi) ∧ w'.cell? ⟨H, 4, none⟩ = some (.int .i64 orc) ∧ w'.cell? ⟨H, 5, none⟩ = some (.int .i64 ora) ∧ w'.cell? ⟨H, 6, none⟩ = some (.int .i32 och))) (by kernel_rfl) (⟨c0, b0, b1, b2, b3, b4, b5, b6⟩) (fun hHeld => ?_)
    clear c0 b0 b1 b2 b3 b4 b5 b6
    refine wpAnyH_take (i := 0) (v := ?_) rfl (by kernel_rfl) (by kernel_rfl) (by kernel_rfl) (fun _ _ _ h => h) (Or.inl ⟨by rfl, ?_⟩) (by assumption) ?_
    rotate_left
    · intro W' hSw; obtain ⟨s0, s1, s2, s3, s4, s5, s6, s7⟩ := hSw; go_simp; try with_reducible rfl
    try simp only [Act.put, List.getElem_toArray, List.getElem_cons_succ, List.getElem_cons_zero, List.setIfInBounds_toArray, List.set_cons_zero, List.set_cons_succ]
    refine wpAnyH_take (i := 1) (v := ?_) rfl (by kernel_rfl) (by kernel_rfl) (by kernel_rfl) (fun _ _ _ h => h) (Or.inl ⟨by rfl, ?_⟩) (by assumption) ?_
    rotate_left
    · intro W' hSw; obtain ⟨s0, s1, s2, s3, s4, s5, s6, s7⟩ := hSw; go_simp; try with_reducible rfl
    try simp only [Act.put, List.getElem_toArray, List.getElem_cons_succ, List.getElem_cons_zero, List.setIfInBounds_toArray, List.set_cons_zero, List.set_cons_succ]
    refine wpAnyH_take (i := 2) (v := ?_) rfl (by kernel_rfl) (by kernel_rfl) (by kernel_rfl) (fun _ _ _ h => h) (Or.inl ⟨by rfl, ?_⟩) (by assumption) ?_
    rotate_left
    · intro W' hSw; obtain ⟨s0, s1, s2, s3, s4, s5, s6, s7⟩ := hSw; go_simp; try with_reducible rfl
    try simp only [Act.put, List.getElem_toArray, List.getElem_cons_succ, List.getElem_cons_zero, List.setIfInBounds_toArray, List.set_cons_zero, List.set_cons_succ]
    refine wpAnyH_take (i := 3) (v := ?_) rfl (by kernel_rfl) (by kernel_rfl) (by kernel_rfl) (fun _ _ _ h => h) (Or.inl ⟨by rfl, ?_⟩) (by assumption) ?_
    rotate_left
    · intro W' hSw; obtain ⟨s0, s1, s2, s3, s4, s5, s6, s7⟩ := hSw; go_simp; try with_reducible rfl
    try simp only [Act.put, List.getElem_toArray, List.getElem_cons_succ, List.getElem_cons_zero, List.setIfInBounds_toArray, List.set_cons_zero, List.set_cons_succ]
    refine wpAnyH_take (i := 4) (v := ?_) rfl (by kernel_rfl) (by kernel_rfl) (by kernel_rfl) (fun _ _ _ h => h) (Or.inl ⟨by rfl, ?_⟩) (by assumption) ?_
    rotate_left
    · intro W' hSw; obtain ⟨s0, s1, s2, s3, s4, s5, s6, s7⟩ := hSw; go_simp; try with_reducible rfl
    try simp only [Act.put, List.getElem_toArray, List.getElem_cons_succ, List.getElem_cons_zero, List.setIfInBounds_toArray, List.set_cons_zero, List.set_cons_succ]
    refine wpAnyH_ready (rs := [5]) (by kernel_rfl) (by simp) ?_
    refine AllReadyH.cons rfl (fun KK hK => ?_) AllReadyH.nil
    go_simp
    refine (HFIND2.out _ ((Below.refl _ W0).drew)).mono ?_
    rintro e w2 ⟨i, hi, rfl, hg⟩
    have HI : Hid (FindP l OP i) := hi
    have HB2 : Hid (Below W0.heap.size W0 w2) := hg
    have hc := HC.out w2 hg
    simp only at hc
    clear hi hg
    refine hK.out _ _ hc (fun hHeld => ?_)
    clear hK KK
    try simp only [Act.put, List.getElem_toArray, List.getElem_cons_succ, List.getElem_cons_zero, List.setIfInBounds_toArray, List.set_cons_zero, List.set_cons_succ]
    refine wpAnyH_take (i := 6) (v := ?_) rfl (by kernel_rfl) (by kernel_rfl) (by kernel_rfl) (fun _ _ _ h => h) (Or.inl ⟨by rfl, ?_⟩) (by assumption) ?_
    rotate_left
    · intro W' hSw; obtain ⟨s0, s1, s2, s3, s4, s5, s6, s7⟩ := hSw; go_simp; try with_reducible rfl
    try simp only [Act.put, List.getElem_toArray, List.getElem_cons_succ, List.getElem_cons_zero, List.setIfInBounds_toArray, List.set_cons_zero, List.set_cons_succ]
    refine wpAnyH_take (i := 7) (v := ?_) rfl (by kernel_rfl) (by kernel_rfl) (by kernel_rfl) (fun _ _ _ h => h) (Or.inl ⟨by rfl, ?_⟩) (by assumption) ?_
    rotate_left
    · intro W' hSw; obtain ⟨s0, s1, s2, s3, s4, s5, s6, s7⟩ := hSw; go_simp; try with_reducible rfl
    try simp only [Act.put, List.getElem_toArray, List.getElem_cons_succ, List.getElem_cons_zero, List.setIfInBounds_toArray, List.set_cons_zero, List.set_cons_succ]
    refine wpAnyH_take (i := 8) (v := ?_) rfl (by kernel_rfl) (by kernel_rfl) (by kernel_rfl) (fun _ _ _ h => h) (Or.inl ⟨by rfl, ?_⟩) (by assumption) ?_
    rotate_left
    · intro W' hSw; obtain ⟨s0, s1, s2, s3, s4, s5, s6, s7⟩ := hSw; go_simp; try with_reducible rfl
    try simp only [Act.put, List.getElem_toArray, List.getElem_cons_succ, List.getElem_cons_zero, List.setIfInBounds_toArray, List.set_cons_zero, List.set_cons_succ]
    refine wpAnyH_take (i := 9) (v := ?_) rfl (by kernel_rfl) (by kernel_rfl) (by kernel_rfl) (fun _ _ _ h => h) (Or.inl ⟨by rfl, ?_⟩) (by assumption) ?_
    rotate_left
    · intro W' hSw; obtain ⟨s0, s1, s2, s3, s4, s5, s6, s7⟩ := hSw; go_simp; try with_reducible rfl
    try simp only [Act.put, List.getElem_toArray, List.getElem_cons_succ, List.getElem_cons_zero, List.setIfInBounds_toArray, List.set_cons_zero, List.set_cons_succ]
    refine wpAnyH_ready (rs := [10]) (by kernel_rfl) (by simp) ?_
    refine AllReadyH.cons rfl (fun KK hK => ?_) AllReadyH.nil
    go_simp
    refine hK.out _ _ hHeld (fun hHeld => ?_)
    clear hK KK
    try simp only [Act.put, List.getElem_toArray, List.getElem_cons_succ, List.getElem_cons_zero, List.setIfInBounds_toArray, List.set_cons_zero, List.set_cons_succ]
    refine wpAnyH_done (by kernel_rfl) ?_ _
    refine NoPanic.normal ?_
    clear hHeld
    clear hc
    have hE := HADDE.out
    rw [if_pos rfl] at hE
    subst hE
    have hK := HADDK.out
    rw [if_pos rfl] at hK
    have HF : Hid (Q w2) := HQQ.out _ ⟨_, by rw [hK]; exact (HV.out _ HB2.out).1, lies_refl _ _, cg_below (HV.out _ HB2.out).2.2 _⟩
    clear hK HADDE HADDK
    go_wp2
    go_ret
    exact ⟨rfl, HF.out⟩
end Go.Proofs.Ytcbnmahbdcjamaa
