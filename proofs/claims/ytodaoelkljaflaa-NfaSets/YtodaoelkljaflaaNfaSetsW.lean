/- The walk of NfaSets. -/
import Derived.Test.YtodaoelkljaflaaNfaBuildsW
import Derived.Deep.RegionLaw
import Derived.Deep.CutBlock
namespace Go.Proofs.Ytodaoelkljaflaa
open Go.RowKit
set_option linter.unusedVariables false
set_option linter.unusedSimpArgs false

theorem info_Nd : (Try.prog.info? 25).map (fun i => (i.zero, i.size, i.bytes)) = some (some (.agg #[.int .i64 0, .slice none 0 0, .slice none 0 0]), 3, 56) := by kernel_rfl
set_option maxHeartbeats 2000000 in
theorem set2_any (c : Int) (w : World) : Calls Try.prog 27 #[.int .i64 c] w fun e w' => ∃ g, e = .returned (.agg #[.int .i64 1, .slice (some ⟨g, 0, none⟩) 1 1, .slice none 0 0]) ∧ w'.heap[g]? = some (.cells #[.int .i64 c] 3) ∧ w.heap.size ≤ g ∧ Below w.heap.size w w' := by
  obtain ⟨W, hW⟩ : ∃ W : World, W = (w.alloc (.cells #[.int .i64 1, .slice (some ⟨w.heap.size + 1, 0, none⟩) 1 1, .slice none 0 0] 25)).alloc (.cells #[.int .i64 c] 3) := ⟨_, rfl⟩
  have HB : Hid (Below w.heap.size w W) := by rw [hW]; exact ((Below.refl _ w).alloc (Nat.le_refl _) _).alloc (by simp) _
  have HF : Hid (∃ g, Ending.returned (.agg #[.int .i64 1, .slice (some ⟨w.heap.size + 1, 0, none⟩) 1 1, .slice none 0 0]) = .returned (.agg #[.int .i64 1, .slice (some ⟨g, 0, none⟩) 1 1, .slice none 0 0]) ∧ W.heap[g]? = some (.cells #[.int .i64 c] 3) ∧ w.heap.size ≤ g ∧ Below w.heap.size w W) :=
    ⟨w.heap.size + 1, rfl, by rw [hW]; exact new_at2 w _ _, by omega, HB.out⟩
  go_enter Try.func27, Try.ntmps27
  go_wp2
  rw [← hW]
  refine bodyPost_ret (v := .agg #[.int .i64 1, .slice (some ⟨w.heap.size + 1, 0, none⟩) 1 1, .slice none 0 0]) ?_ rfl HF.out
  rw [results_cell_one rfl, hW]
  go_simp
/-- Both expressions as they are put up: one set of classes, and a set for each of them. -/
def SetsAt (B Ho Ha : Nat) (C1 C2 : List Nat) (v1 v2 : Value) (xs : List Value) (w : World) : Prop :=
  w.heap[Ho]? = some (.cells #[.int .i64 1, v1, .slice none 0 0] 25) ∧ w.heap[Ha]? = some (.cells #[.int .i64 3, .slice none 0 0, v2] 25) ∧ w.ownsRow B 3 1 v1 C1.length (C1.map nI) ∧ w.ownsRow B 25 3 v2 C2.length xs ∧
    ∀ i (hi : i < C2.length), ∃ g, xs[i * 3]? = some (.int .i64 1) ∧ xs[i * 3 + 1]? = some (.slice (some ⟨g, 0, none⟩) 1 1) ∧ xs[i * 3 + 2]? = some (.slice none 0 0) ∧ w.heap[g]? = some (.cells #[nI C2[i]] 3) ∧ v1.ownBlock ≠ some g
theorem SetsAt.later {B Ho Ha : Nat} {C1 C2 : List Nat} {v1 v2 : Value} {xs : List Value} {w w' : World} (h : SetsAt B Ho Ha C1 C2 v1 v2 xs w) (hb : Below w.heap.size w w') : SetsAt B Ho Ha C1 C2 v1 v2 xs w' := by
  obtain ⟨h1, h2, h3, h4, h5⟩ := h
  have up : ∀ {b : Nat} {o : Obj}, w.heap[b]? = some o → w'.heap[b]? = some o := fun hx => (hb.block _ (Array.getElem?_eq_some_iff.1 hx).1).trans hx
  refine ⟨up h1, up h2, own_later5 h3 hb, own_later5 h4 hb, fun i hi => ?_⟩
  obtain ⟨g, q1, q2, q3, q4, q5⟩ := h5 i hi
  exact ⟨g, q1, q2, q3, up q4, q5⟩
theorem sets_one {B Ho Ha : Nat} {C1 C2 : List Nat} {v1 v2 : Value} {xs : List Value} {w w2 : World} {o : Obj} {k g cap : Nat} (hB : Ha < B) (hO : Ho < Ha) (h : SetsAt B Ho Ha C1 C2 v1 v2 xs w) (h1 : w2.ownsRow B 3 1 (.slice (some ⟨g, 0, none⟩) (C1.length + 1) cap) (C1.length + 1) (C1.map nI ++ [nI k])) (h2 : (w.alloc o).grownBy w2 v1.ownBlock) (h3 : v1.ownBlock = some g ∨ g = w.heap.size + 1) :
    SetsAt B Ho Ha (C1 ++ [k]) C2 (.slice (some ⟨g, 0, none⟩) (C1.length + 1) cap) v2 xs (w2.setCell ⟨Ho, 1, none⟩ (.slice (some ⟨g, 0, none⟩) (C1.length + 1) cap)) := by
  have hz := h.later ((Below.refl _ w).alloc (Nat.le_refl _) o)
  obtain ⟨a1, a2, a3, a4, a5⟩ := hz
  have sz : (w.alloc o).heap.size = w.heap.size + 1 := by simp
  have up : ∀ {b : Nat} {cs : Array Value} {t : TypeId} {fr : Nat × Nat}, (w.alloc o).heap[b]? = some (.cells cs t fr) → some b ≠ v1.ownBlock → w2.heap[b]? = some (.cells cs t fr) := fun hx hne => (h2.block _ (Array.getElem?_eq_some_iff.1 hx).1 hne).trans hx
  have nn : ∀ {b : Nat} {cs : Array Value} {fr : Nat × Nat}, (w.alloc o).heap[b]? = some (.cells cs 25 fr) → some b ≠ v1.ownBlock := fun hx e => own_ne a3 hx (by decide) e.symm
  have b1 := up a1 (nn a1)
  have b2 := up a2 (nn a2)
  have b4 := a4.kept h2 (own_ne2 a4 a3 (by decide))
  have hg2 := grown_cell w2 Ho 1 (.slice (some ⟨g, 0, none⟩) (C1.length + 1) cap)
  refine ⟨?_, (hg2.block Ha (Array.getElem?_eq_some_iff.1 b2).1 (fun e => by simp at e; omega)).trans b2, ?_, ?_, fun i hi => ?_⟩
  · rw [heap_setCell_same w2 Ho 1 _ _ _ b1]; rfl
  · rw [List.length_append, List.map_append]
    exact h1.kept hg2 (.inr (own_ne h1 b1 (by decide)))
  · refine b4.kept hg2 ?_
    cases hv : v2.ownBlock with
    | none => exact .inl rfl
    | some y => exact .inr (fun e => by have := (b4.lt y hv).1; simp at e; omega)
  · obtain ⟨y, q1, q2, q3, q4, q5⟩ := a5 i hi
    have r4 := up q4 (fun e => q5 e.symm)
    refine ⟨y, q1, q2, q3, (hg2.block y (Array.getElem?_eq_some_iff.1 r4).1 (fun e => ?_)).trans r4, fun e => ?_⟩
    · simp at e
      rw [e, b1] at r4
      simp at r4
    · simp [Value.ownBlock] at e
      rcases h3 with h3 | h3
      · exact q5 (by rw [h3, e])
      · have := (Array.getElem?_eq_some_iff.1 q4).1
        omega
theorem sets_all {B Ho Ha : Nat} {C1 C2 : List Nat} {v1 v2 : Value} {xs : List Value} {w w4 w5 : World} {o : Obj} {k g y cap : Nat} (hB : Ha < B) (hO : Ho < Ha) (hBw : B ≤ w.heap.size) (h : SetsAt B Ho Ha C1 C2 v1 v2 xs w) (hb : Below w.heap.size w w4) (hg : w4.heap[g]? = some (.cells #[nI k] 3)) (hgf : w.heap.size ≤ g) (h1 : w5.ownsRow B 25 3 (.slice (some ⟨y, 0, none⟩) (C2.length + 1) cap) (C2.length + 1) (xs ++ [.int .i64 1, .slice (some ⟨g, 0, none⟩) 1 1, .slice none 0 0])) (h2 : (w4.alloc o).grownBy w5 v2.ownBlock) :
    SetsAt B Ho Ha C1 (C2 ++ [k]) v1 (.slice (some ⟨y, 0, none⟩) (C2.length + 1) cap) (xs ++ [.int .i64 1, .slice (some ⟨g, 0, none⟩) 1 1, .slice none 0 0]) (w5.setCell ⟨Ha, 2, none⟩ (.slice (some ⟨y, 0, none⟩) (C2.length + 1) cap)) := by
  have hbz : Below w.heap.size w (w4.alloc o) := hb.alloc hb.size o
  have h0 := h.2.2.1
  obtain ⟨a1, a2, a3, a4, a5⟩ := h.later hbz
  have hgz : (w4.alloc o).heap[g]? = some (.cells #[nI k] 3) := (((Below.refl _ w4).alloc (Nat.le_refl _) o).block g (Array.getElem?_eq_some_iff.1 hg).1).trans hg
  have up : ∀ {b : Nat} {cs : Array Value} {t : TypeId} {fr : Nat × Nat}, (w4.alloc o).heap[b]? = some (.cells cs t fr) → some b ≠ v2.ownBlock → w5.heap[b]? = some (.cells cs t fr) := fun hx hne => (h2.block _ (Array.getElem?_eq_some_iff.1 hx).1 hne).trans hx
  have ni : ∀ {b : Nat} {cs : Array Value} {fr : Nat × Nat}, (w4.alloc o).heap[b]? = some (.cells cs 3 fr) → some b ≠ v2.ownBlock := fun hx e => own_ne a4 hx (by decide) e.symm
  have b1 := up a1 (fun e => by have := (a4.lt Ho e.symm).1; omega)
  have b2 := up a2 (fun e => by have := (a4.lt Ha e.symm).1; omega)
  have b3 := a3.kept h2 (own_ne2 a3 a4 (by decide))
  have hg2 := grown_cell w5 Ha 2 (.slice (some ⟨y, 0, none⟩) (C2.length + 1) cap)
  have fin : ∀ {b : Nat} {cs : Array Value}, w5.heap[b]? = some (.cells cs 3) → (w5.setCell ⟨Ha, 2, none⟩ (.slice (some ⟨y, 0, none⟩) (C2.length + 1) cap)).heap[b]? = some (.cells cs 3) := fun {b cs} hx => (hg2.block b (Array.getElem?_eq_some_iff.1 hx).1 (fun e => by
    simp at e
    rw [e, b2] at hx
    simp at hx)).trans hx
  have hxl : xs.length = C2.length * 3 := a4.1
  refine ⟨(hg2.block Ho (Array.getElem?_eq_some_iff.1 b1).1 (fun e => by simp at e; omega)).trans b1, ?_, ?_, ?_, fun i hi => ?_⟩
  · rw [heap_setCell_same w5 Ha 2 _ _ _ b2]; rfl
  · exact b3.kept hg2 (.inr (own_ne b3 b2 (by decide)))
  · rw [List.length_append]
    refine h1.kept hg2 (.inr (fun e => ?_))
    have := (h1.lt y rfl).1
    simp [Value.ownBlock] at e
    omega
  · rcases Nat.lt_or_ge i C2.length with hi' | hi'
    · obtain ⟨z, q1, q2, q3, q4, q5⟩ := a5 i hi'
      have e : (C2 ++ [k])[i] = C2[i] := List.getElem_append_left hi'
      refine ⟨z, by rw [List.getElem?_append_left (by omega)]; exact q1, by rw [List.getElem?_append_left (by omega)]; exact q2, by rw [List.getElem?_append_left (by omega)]; exact q3, ?_, q5⟩
      rw [e]
      exact fin (up q4 (ni q4))
    · have hil : i = C2.length := by simp at hi; omega
      subst hil
      have e : (C2 ++ [k])[C2.length] = k := by simp
      refine ⟨g, ?_, ?_, ?_, ?_, fun e' => ?_⟩
      · rw [List.getElem?_append_right (by omega), hxl, Nat.sub_self]; rfl
      · rw [List.getElem?_append_right (by omega), hxl, show C2.length * 3 + 1 - C2.length * 3 = 1 by omega]; rfl
      · rw [List.getElem?_append_right (by omega), hxl, show C2.length * 3 + 2 - C2.length * 3 = 2 by omega]; rfl
      · rw [e]
        exact fin (up hgz (ni hgz))
      · have := (h0.lt g e').2
        omega
/-- Which classes are taken. -/
def selB (mask : Int) (k : Nat) : Bool := bits .and .i64 (mask / 2 ^ k) 1 == 1
theorem risB_filter (sel : Nat → Bool) : (n : Nat) → n ≤ 24 → (a : Int) → (s : Nat) → a < (s : Int) → s + n ≤ 24 → risB a ((toI ((List.range' s n).filter sel))) = true
  | 0, _, _, _, _, _ => by simp [toI, risB]
  | n + 1, h, a, s, hs, hn => by
    rw [List.range'_succ, List.filter_cons]
    split
    · have ih := risB_filter sel n (by omega) (s : Int) (s + 1) (by omega) (by omega)
      show risB a ((s : Int) :: toI ((List.range' (s + 1) n).filter sel)) = true
      simp only [risB, ih, Bool.and_true, Bool.and_eq_true, decide_eq_true_eq]
      exact ⟨hs, by omega⟩
    · exact risB_filter sel n (by omega) a (s + 1) (by omega) (by omega)
theorem ok_oneset (C : List Nat) (h : risB (-1) (toI C) = true) : (⟨1, toI C, .nil⟩ : Nd).ok = true := by
  refine ok_mk ?_ (by simp [Nd.cnt, cntF])
  simp only [okN, Bool.and_eq_true, List.all_eq_true]
  exact ⟨⟨rfl, h⟩, fun x hx => by simp [toL] at hx⟩
theorem ok_allsets (C : List Nat) (h : ∀ c, c ∈ C → c ≤ 23) (hl : C.length ≤ 24) : (⟨3, [], ofL (C.map fun (c : Nat) => setNd (c : Int))⟩ : Nd).ok = true := by
  refine ok_mk (okN_node 3 _ 31 rfl (by omega) (fun z hz => ?_)) ?_
  · obtain ⟨c, hc, rfl⟩ := List.mem_map.1 hz
    have := h c hc
    simp only [okN, Bool.and_eq_true, List.all_eq_true]
    refine ⟨⟨rfl, ?_⟩, fun x hx => by simp [setNd, toL] at hx⟩
    simp [rclB, setNd, risB]
    omega
  · rw [cnt_node]
    have : ∀ l : List Nat, cntL (l.map fun (c : Nat) => setNd (c : Int)) = l.length := by
      intro l
      induction l with
      | nil => rfl
      | cons x r ih =>
        simp only [cntL, List.map_cons, List.sum_cons, List.length_cons] at ih ⊢
        rw [ih]
        simp [Nd.cnt, setNd, cntF]
        omega
    rw [this]
    omega
theorem fits_setNd (c : Int) (w : List Int) : (setNd c).fits w ↔ w = [c] := by simp [setNd, Nd.fits, nodeL]
theorem fits_one (C : List Nat) (w : List Int) : (⟨1, toI C, .nil⟩ : Nd).fits w ↔ ∃ c, c ∈ C ∧ w = [(c : Int)] := by
  show nodeL 1 (toI C) _ w ↔ _
  simp only [nodeL, if_true]
  unfold toI
  constructor
  · rintro ⟨x, hx, rfl⟩
    obtain ⟨c, hc, rfl⟩ := List.mem_map.1 hx
    exact ⟨c, hc, rfl⟩
  · rintro ⟨c, hc, rfl⟩
    exact ⟨c, List.mem_map.2 ⟨c, hc, rfl⟩, rfl⟩
theorem fits_all (C : List Nat) (w : List Int) : (⟨3, [], ofL (C.map fun (c : Nat) => setNd (c : Int))⟩ : Nd).fits w ↔ ∃ c, c ∈ C ∧ w = [(c : Int)] := by
  rw [fits_alt]
  constructor
  · rintro ⟨n, hn, h⟩
    obtain ⟨c, hc, rfl⟩ := List.mem_map.1 hn
    exact ⟨c, hc, (fits_setNd _ _).1 h⟩
  · rintro ⟨c, hc, h⟩
    exact ⟨_, List.mem_map.2 ⟨c, hc, rfl⟩, (fits_setNd _ _).2 h⟩
set_option maxRecDepth 100000 in
set_option maxHeartbeats 16000000 in
theorem nfaSets_walk (mask : Int) (xs0 : List Int) (a : Option Addr) (len0 cap : Nat) (w : World) (hlo : -9223372036854775808 ≤ mask) (hhi : mask ≤ 9223372036854775807) (hrd : Rd .i64 w a len0 xs0) (hcap : len0 ≤ cap) (hcm : cap ≤ 9223372036854775807) (hnone : a = none → cap = 0) :
    Calls Try.prog 10 #[.int .i64 mask, .slice a len0 cap] w fun e w' => e = .returned (.bool true) ∧ Below w.heap.size w w' := by
  obtain ⟨len, hlen⟩ : ∃ len : Nat, (len : Int) = min (len0 : Int) 5 := ⟨min len0 5, by omega⟩
  have hmin := min_run len0 len 5 hlen
  have hcut0 := cutI a len0 cap len (by omega)
  obtain ⟨xs, hxs⟩ : ∃ xs, xs = xs0.take len := ⟨_, rfl⟩
  have HRD : Hid (Rd .i64 w a len xs) := by rw [hxs]; exact hrd.take len (by omega)
  have HL : Hid (xs.length = len) := HRD.out.1
  have hl5 : len ≤ 5 := by omega
  obtain ⟨i0, ji, jz0, jz1, jz2⟩ := info_parts info_i
  have HJ : Hid (Try.prog.info? 3 = some i0 ∧ i0.zero = some (.int .i64 0) ∧ i0.size = 1 ∧ i0.bytes = 8) := ⟨ji, jz0, jz1, jz2⟩
  obtain ⟨n0, ni, nz0, nz1, nz2⟩ := info_parts info_Nd
  have HK : Hid (Try.prog.info? 25 = some n0 ∧ n0.zero = some (.agg #[.int .i64 0, .slice none 0 0, .slice none 0 0]) ∧ n0.size = 3 ∧ n0.bytes = 56) := ⟨ni, nz0, nz1, nz2⟩
  clear ji jz0 jz1 jz2 ni nz0 nz1 nz2 hrd hcap hcm hnone hxs
  go_enter Try.func10, Try.ntmps10
  go_wp2_with fail
  refine (shown_any w).mono ?_
  rintro e w1 ⟨rfl, hb1⟩
  have HB1 : Hid (Below w.heap.size w w1) := hb1
  obtain ⟨Ho, hHo⟩ : ∃ Ho, Ho = w1.heap.size := ⟨_, rfl⟩
  obtain ⟨W, hW⟩ : ∃ W : World, W = (w1.alloc (.cells #[.int .i64 1, .slice none 0 0, .slice none 0 0] 25)).alloc (.cells #[.int .i64 3, .slice none 0 0, .slice none 0 0] 25) := ⟨_, rfl⟩
  have HBW : Hid (Below w1.heap.size w1 W) := by rw [hW]; exact ((Below.refl _ w1).alloc (Nat.le_refl _) _).alloc (by simp) _
  have HST : Hid (SetsAt (Ho + 2) Ho (Ho + 1) [] [] (.slice none 0 0) (.slice none 0 0) [] W) := by
    refine ⟨?_, ?_, World.ownsRow_nil _ _ _ _, World.ownsRow_nil _ _ _ _, fun i hi => by simp at hi⟩
    · rw [hW, hHo]
      exact (((Below.refl _ (w1.alloc _)).alloc (Nat.le_refl _) _).block w1.heap.size (by simp)).trans (heap_alloc_new w1 _)
    · rw [hW, hHo]; exact new_at2 w1 _ _
  have HSZ : Hid (Ho = w1.heap.size ∧ W.heap.size = Ho + 2) := ⟨hHo, by rw [hW, hHo]; simp⟩
  clear hb1 hlen
  go_upto_region 5 with fail
  rw [← hHo, ← hW]
  clear hHo hW hmin hcut0
  go_upto_block 0 with fail
  go_cut [8] (fun x8 wx => ∃ v1 v2 ys, SetsAt (Ho + 2) Ho (Ho + 1) ((List.range 24).filter (selB mask)) ((List.range 24).filter (selB mask)) v1 v2 ys wx ∧ Below w1.heap.size w1 wx)
  case first =>
    go_wp2
    go_loopw [8] (fun x8 wr => ∃ k : Nat, k ≤ 24 ∧ x8 = .int .i64 k ∧ ∃ v1 v2 ys, SetsAt (Ho + 2) Ho (Ho + 1) ((List.range k).filter (selB mask)) ((List.range k).filter (selB mask)) v1 v2 ys wr ∧ Below w1.heap.size w1 wr ∧ Ho + 2 ≤ wr.heap.size) (fun x8 _ => 24 - (intOf x8).toNat)
    case atStart => exact ⟨0, by omega, rfl, _, _, _, HST.out, HBW.out, by have := HSZ.out; omega⟩
    case round =>
      obtain ⟨k, hk, hx8, v1, v2, ys, hs, hb, hz⟩ := hrel
      subst hx8
      obtain ⟨C, hC⟩ : ∃ C, C = (List.range k).filter (selB mask) := ⟨_, rfl⟩
      rw [← hC] at hs
      have HS : Hid (SetsAt (Ho + 2) Ho (Ho + 1) C C v1 v2 ys wr) := hs
      have HB : Hid (Below w1.heap.size w1 wr ∧ Ho + 2 ≤ wr.heap.size) := ⟨hb, hz⟩
      have hCl : C.length ≤ 24 := by rw [hC]; have := List.length_filter_le (selB mask) (List.range k); simp at this; omega
      clear hs hb hz HST
      by_cases hlt : k < 24
      · have hki : (k : Int) < 24 := by omega
        have hsucc : (List.range (k + 1)).filter (selB mask) = C ++ (if selB mask k then [k] else []) := by
          rw [List.range_succ, List.filter_append, ← hC]
          congr 1
          simp only [List.filter_cons, List.filter_nil]
        obtain ⟨b, hbb⟩ : ∃ b, b = selB mask k := ⟨_, rfl⟩
        rw [← hbb] at hsucc
        have hbit : (bits .and .i64 (mask / 2 ^ k) 1 == 1) = b := by rw [hbb]; rfl
        clear hbb
        cases b with
        | false =>
          have HN : Hid (SetsAt (Ho + 2) Ho (Ho + 1) ((List.range (k + 1)).filter (selB mask)) ((List.range (k + 1)).filter (selB mask)) v1 v2 ys wr) := by
            show SetsAt _ _ _ _ _ _ _ _ _
            rw [hsucc]
            simpa using HS.out
          clear hsucc hC
          go_wp2
          go_roundw
          case rel => exact ⟨k + 1, by omega, by go_num, v1, v2, ys, HN.out, HB.out.1, HB.out.2⟩
          case measure => simp [intOf]; omega
        | true =>
          have hs := HS.out
          obtain ⟨h1, h2, h3, h4, _⟩ := hs
          obtain ⟨a1, c1, rfl⟩ := own_sl1 h3
          obtain ⟨a2, c2, rfl⟩ := own_sl1 h4
          obtain ⟨cl, hcl⟩ : ∃ cl, cl = C.length := ⟨_, rfl⟩
          have HSC : Hid (cl = C.length ∧ (List.range (k + 1)).filter (selB mask) = C ++ [k]) := ⟨hcl, by rw [hsucc]; simp⟩
          have e1 : wr.cell? ⟨Ho, 1, none⟩ = some (.slice a1 cl c1) := by rw [hcl]; exact cell_of_row wr Ho 1 _ _ _ h1
          rw [← hcl] at h3
          have HO3 : Hid (wr.ownsRow (Ho + 2) 3 1 (.slice a1 cl c1) cl (C.map nI)) := h3
          have HNE : Hid (some Ho ≠ (Value.slice a1 cl c1).ownBlock) := fun e => own_ne h3 h1 (by decide) e.symm
          have HH1 : Hid (wr.heap[Ho]? = some (.cells #[.int .i64 1, .slice a1 C.length c1, .slice none 0 0] 25)) := h1
          have hclb : cl ≤ 24 := by omega
          clear h1 h2 h3 h4 hsucc hC hcl
          go_upto_region 10 with (at_builtin; refine wpList_append_lies _ rfl _ _ 22 rfl (Ho + 2) 3 i0 _ 1 8 Try.underlying22 HJ.out.1 HJ.out.2.1 HJ.out.2.2.1 HJ.out.2.2.2 rfl (by decide) (.slice a1 cl c1) cl (C.map nI) rfl (own_later5 HO3.out ((Below.refl _ wr).alloc (Nat.le_refl _) _)) ⟨wr.heap.size, 0, none⟩ 1 1 [.int .i64 (k : Int)] rfl rfl (World.news_of_block (cs := #[.int .i64 (k : Int)]) (t := 3) (fr := (0, 0)) (heap_alloc_new wr _)) (by simp [Value.oneCell']) (by omega) (by unfold maxLen; omega) (by omega) (by have := HB.out.2; simp; omega) (wr.heap.size + 1) (by simp) (fun g cap w2 q1 q2 q3 q4 => ?_); have Q1 : Hid (w2.ownsRow (Ho + 2) 3 1 (.slice (some ⟨g, 0, none⟩) (cl + 1) cap) (cl + 1) (C.map nI ++ [.int .i64 (k : Int)]) ∧ (wr.alloc (.cells #[.int .i64 (k : Int)] 3)).grownBy w2 (Value.slice a1 cl c1).ownBlock ∧ ((Value.slice a1 cl c1).ownBlock = some g ∨ g = wr.heap.size + 1)) := ⟨q1, q2, q3⟩; have hup : w2.heap[Ho]? = some (.cells #[.int .i64 1, .slice a1 C.length c1, .slice none 0 0] 25) := (q2.block Ho (by have := (Array.getElem?_eq_some_iff.1 HH1.out).1; simp; omega) HNE.out).trans ((((Below.refl _ wr).alloc (Nat.le_refl _) _).block Ho (Array.getElem?_eq_some_iff.1 HH1.out).1).trans HH1.out); have e1' : w2.cell? ⟨Ho, 1, none⟩ = some (.slice a1 C.length c1) := cell_of_row w2 Ho 1 _ _ _ hup; have f1' : w2.frozen? ⟨Ho, 1, none⟩ = false := Lib.frozen_of_heap hup 1; clear q1 q2 q3 q4 hup)
          obtain ⟨w3, hw3⟩ : ∃ w3, w3 = w2.setCell ⟨Ho, 1, none⟩ (.slice (some ⟨g, 0, none⟩) (cl + 1) cap) := ⟨_, rfl⟩
          have HS3 : Hid (SetsAt (Ho + 2) Ho (Ho + 1) (C ++ [k]) C (.slice (some ⟨g, 0, none⟩) (cl + 1) cap) (.slice a2 C.length c2) ys w3) := by
            rw [hw3]
            have q := Q1.out
            rw [HSC.out.1] at q ⊢
            exact sets_one (by omega) (by omega) HS.out q.1 q.2.1 q.2.2
          have HB3 : Hid (Below w1.heap.size w1 w3 ∧ Ho + 2 ≤ w3.heap.size) := by
            rw [hw3]
            obtain ⟨q1, q2, q3⟩ := Q1.out
            have hz := HB.out
            have hsz := HSZ.out
            refine ⟨((hz.1.alloc hz.1.size _).grown q2 (by have := hz.1.size; simp; omega) (fun y hy => by have := (HO3.out.lt y hy).1; omega)).setCell (p := ⟨Ho, 1, none⟩) (by show w1.heap.size ≤ Ho; omega) _, ?_⟩
            have h1 := q2.size
            simp [World.setCell] at h1 ⊢
            omega
          obtain ⟨cm, hcm⟩ : ∃ cm, cm = C.length := ⟨_, rfl⟩
          have hcmb : cm ≤ 24 := by omega
          have HCM : Hid (cm = C.length) := hcm
          rw [← hcm] at HS3
          have HA : Hid (∀ V : World, Below w3.heap.size w3 V → V.cell? ⟨Ho + 1, 2, none⟩ = some (.slice a2 cm c2) ∧ V.ownsRow (Ho + 2) 25 3 (.slice a2 cm c2) cm ys) := by
            intro V hV
            obtain ⟨_, q2, _, q4, _⟩ := HS3.out.later hV
            rw [← hcm] at q4
            exact ⟨cell_of_row V (Ho + 1) 2 _ _ _ q2, q4⟩
          have HFAR : Hid (∀ V V' : World, Below w3.heap.size w3 V → V.grownBy V' (Value.slice a2 cm c2).ownBlock → V'.cell? ⟨Ho + 1, 2, none⟩ = some (.slice a2 cm c2) ∧ V'.frozen? ⟨Ho + 1, 2, none⟩ = false) := by
            intro V V' hV hg
            obtain ⟨_, q2, _, q4, _⟩ := HS3.out.later hV
            have hx := (hg.block (Ho + 1) (Array.getElem?_eq_some_iff.1 q2).1 (fun e => by have := (q4.lt (Ho + 1) e.symm).1; omega)).trans q2
            exact ⟨cell_of_row V' (Ho + 1) 2 _ _ _ hx, Lib.frozen_of_heap hx 2⟩
          have HFIN : Hid (∀ (w4 w5 : World) (o : Obj) (y z cap5 : Nat), Below w3.heap.size w3 w4 → w4.heap[y]? = some (.cells #[.int .i64 (k : Int)] 3) → w3.heap.size ≤ y → w5.ownsRow (Ho + 2) 25 3 (.slice (some ⟨z, 0, none⟩) (cm + 1) cap5) (cm + 1) (ys ++ [.int .i64 1, .slice (some ⟨y, 0, none⟩) 1 1, .slice none 0 0]) → (w4.alloc o).grownBy w5 (Value.slice a2 cm c2).ownBlock →
              SetsAt (Ho + 2) Ho (Ho + 1) (C ++ [k]) (C ++ [k]) (.slice (some ⟨g, 0, none⟩) (cl + 1) cap) (.slice (some ⟨z, 0, none⟩) (cm + 1) cap5) (ys ++ [.int .i64 1, .slice (some ⟨y, 0, none⟩) 1 1, .slice none 0 0]) (w5.setCell ⟨Ho + 1, 2, none⟩ (.slice (some ⟨z, 0, none⟩) (cm + 1) cap5)) ∧ Below w1.heap.size w1 (w5.setCell ⟨Ho + 1, 2, none⟩ (.slice (some ⟨z, 0, none⟩) (cm + 1) cap5)) ∧ Ho + 2 ≤ (w5.setCell ⟨Ho + 1, 2, none⟩ (.slice (some ⟨z, 0, none⟩) (cm + 1) cap5)).heap.size) := by
            intro w4 w5 o y z cap5 hb4 hy hyf hown hgr
            have hz3 := HB3.out
            have hsz := HSZ.out
            have hov := (HA.out w4 hb4).2
            refine ⟨?_, ?_, ?_⟩
            · have h0 := HS3.out
              rw [hcm] at hown hgr h0 ⊢
              exact sets_all (by omega) (by omega) hz3.2 h0 hb4 hy hyf hown hgr
            · have hb14 : Below w1.heap.size w1 w4 := hz3.1.trans (hb4.mono hz3.1.size)
              exact ((hb14.alloc hb14.size o).grown hgr (by have := hb14.size; simp; omega) (fun q hq => by have := (hov.lt q hq).1; omega)).setCell (p := ⟨Ho + 1, 2, none⟩) (by show w1.heap.size ≤ Ho + 1; omega) _
            · have h1 := hgr.size
              have h2 := hb4.size
              simp [World.setCell] at h1 ⊢
              omega
          rw [← hw3]
          have e3 := (HA.out w3 (Below.refl _ _)).1
          have HSUB : Hid (Ho + 2 ≤ w3.heap.size) := HB3.out.2
          clear hw3 hcm e1' f1' e1 Q1 HO3 HNE HH1
          refine wp_region_any (by kernel_rfl) ?_
          try (change wpAny _ _ _ _ _ _ _ (World.drew _))
          refine wpAny_take (i := 0) (v := ?_) rfl (by kernel_rfl) (by kernel_rfl) (by kernel_rfl) (fun _ _ _ h => h) (Or.inl ⟨by rfl, ?_⟩) ?_
          rotate_left
          · intro w; go_simp; try with_reducible rfl
          go_simp
          refine wpAny_take (i := 2) (v := ?_) rfl (by kernel_rfl) (by kernel_rfl) (by kernel_rfl) (fun _ _ _ h => h) (Or.inl ⟨by rfl, ?_⟩) ?_
          rotate_left
          · intro w; go_simp; try with_reducible rfl
          go_simp
          refine wpAny_ready (rs := [1, 3]) (by kernel_rfl) (by simp) ?_
          refine AllReady.cons rfl (fun K hK => ?_) ?_
          · skip
            go_simp
            refine hK _ _ ?_
            clear hK K
            refine wpAny_ready (rs := [3]) (by kernel_rfl) (by simp) ?_
            refine AllReady.cons rfl (fun K hK => ?_) ?_
            · skip
              go_simp
              refine (set2_any (k : Int) _).mono ?_
              rintro e w4 ⟨y, rfl, hy, hyf, hb4⟩
              have HY : Hid (w4.heap[y]? = some (.cells #[.int .i64 (k : Int)] 3) ∧ w3.heap.size ≤ y ∧ Below w3.heap.size w3 w4) := ⟨hy, by simpa using hyf, below_undrew (by simpa using hb4)⟩
              have e4 := (HA.out w4 HY.out.2.2).1
              have e5 := (HA.out (w4.alloc (.cells #[.int .i64 1, .slice (some ⟨y, 0, none⟩) 1 1, .slice none 0 0] 25)) (HY.out.2.2.alloc HY.out.2.2.size _)).1
              clear hy hyf hb4
              try dsimp only
              refine hK _ _ ?_
              clear hK K
              refine wpAny_ready (rs := [4]) (by kernel_rfl) (by simp) ?_
              refine AllReady.cons rfl (fun K hK => ?_) ?_
              · skip
                go_simp
                refine hK _ _ ?_
                clear hK K
                refine wpAny_ready (rs := [5]) (by kernel_rfl) (by simp) ?_
                refine AllReady.cons rfl (fun K hK => ?_) ?_
                · skip
                  refine step_append_lies _ (by rfl) _ _ 23 (by rfl) (Ho + 2) 25 n0 _ 3 56 Try.underlying23 HK.out.1 HK.out.2.1 HK.out.2.2.1 HK.out.2.2.2 rfl (by decide) (.slice a2 cm c2) cm ys (by rfl) (HA.out _ (HY.out.2.2.alloc HY.out.2.2.size _)).2 ⟨w4.heap.size, 0, none⟩ 1 1 [.int .i64 1, .slice (some ⟨y, 0, none⟩) 1 1, .slice none 0 0] (by rfl) (by rfl) (World.news_of_block (cs := #[.int .i64 1, .slice (some ⟨y, 0, none⟩) 1 1, .slice none 0 0]) (t := 25) (fr := (0, 0)) (heap_alloc_new w4 _)) (by simp [Value.oneCell']) (by omega) (by unfold maxLen; omega) (by omega) (by have := HSUB.out; have := HY.out.2.2.size; simp; omega) _ rfl (fun z cap5 w5 hown hgrow hat hlt5 => ?_)
                  have hfar := HFAR.out _ _ (HY.out.2.2.alloc HY.out.2.2.size _) hgrow
                  have hcz := hfar.1
                  have hfz := hfar.2
                  have HFF : Hid (SetsAt (Ho + 2) Ho (Ho + 1) (C ++ [k]) (C ++ [k]) (.slice (some ⟨g, 0, none⟩) (cl + 1) cap) (.slice (some ⟨z, 0, none⟩) (cm + 1) cap5) (ys ++ [.int .i64 1, .slice (some ⟨y, 0, none⟩) 1 1, .slice none 0 0]) (w5.setCell ⟨Ho + 1, 2, none⟩ (.slice (some ⟨z, 0, none⟩) (cm + 1) cap5)) ∧ Below w1.heap.size w1 (w5.setCell ⟨Ho + 1, 2, none⟩ (.slice (some ⟨z, 0, none⟩) (cm + 1) cap5)) ∧ Ho + 2 ≤ (w5.setCell ⟨Ho + 1, 2, none⟩ (.slice (some ⟨z, 0, none⟩) (cm + 1) cap5)).heap.size) := HFIN.out w4 w5 _ y z cap5 HY.out.2.2 HY.out.1 HY.out.2.1 hown hgrow
                  refine hK _ _ ?_
                  clear hK K hfar hown hgrow hat hlt5
                  try simp only [Act.put, List.setIfInBounds_toArray, List.set_cons_zero, List.set_cons_succ]
                  refine wpAny_take (i := 6) (v := ?_) rfl (by kernel_rfl) (by kernel_rfl) (by kernel_rfl) (fun _ _ _ h => h) (Or.inl ⟨by rfl, ?_⟩) ?_
                  rotate_left
                  · intro w; go_simp; try with_reducible rfl
                  go_simp
                  refine wpAny_ready (rs := [7]) (by kernel_rfl) (by simp) ?_
                  refine AllReady.cons rfl (fun K hK => ?_) ?_
                  · skip
                    go_simp
                    refine hK _ _ ?_
                    clear hK K
                    refine wpAny_done (by kernel_rfl) ?_ _
                    go_wp2
                    go_roundw
                    case rel => exact ⟨k + 1, by omega, by go_num, _, _, _, by rw [HSC.out.2]; exact HFF.out.1, HFF.out.2.1, HFF.out.2.2⟩
                    case measure => simp [intOf]; omega
                  exact AllReady.nil
                exact AllReady.nil
              exact AllReady.nil
            exact AllReady.nil
          refine AllReady.cons rfl (fun K hK => ?_) ?_
          · skip
            go_simp
            refine (set2_any (k : Int) _).mono ?_
            rintro e w4 ⟨y, rfl, hy, hyf, hb4⟩
            have HY : Hid (w4.heap[y]? = some (.cells #[.int .i64 (k : Int)] 3) ∧ w3.heap.size ≤ y ∧ Below w3.heap.size w3 w4) := ⟨hy, by simpa using hyf, below_undrew (by simpa using hb4)⟩
            have e4 := (HA.out w4 HY.out.2.2).1
            have e5 := (HA.out (w4.alloc (.cells #[.int .i64 1, .slice (some ⟨y, 0, none⟩) 1 1, .slice none 0 0] 25)) (HY.out.2.2.alloc HY.out.2.2.size _)).1
            clear hy hyf hb4
            try dsimp only
            refine hK _ _ ?_
            clear hK K
            refine wpAny_ready (rs := [1, 4]) (by kernel_rfl) (by simp) ?_
            refine AllReady.cons rfl (fun K hK => ?_) ?_
            · skip
              go_simp
              refine hK _ _ ?_
              clear hK K
              refine wpAny_ready (rs := [4]) (by kernel_rfl) (by simp) ?_
              refine AllReady.cons rfl (fun K hK => ?_) ?_
              · skip
                go_simp
                refine hK _ _ ?_
                clear hK K
                refine wpAny_ready (rs := [5]) (by kernel_rfl) (by simp) ?_
                refine AllReady.cons rfl (fun K hK => ?_) ?_
                · skip
                  refine step_append_lies _ (by rfl) _ _ 23 (by rfl) (Ho + 2) 25 n0 _ 3 56 Try.underlying23 HK.out.1 HK.out.2.1 HK.out.2.2.1 HK.out.2.2.2 rfl (by decide) (.slice a2 cm c2) cm ys (by rfl) (HA.out _ (HY.out.2.2.alloc HY.out.2.2.size _)).2 ⟨w4.heap.size, 0, none⟩ 1 1 [.int .i64 1, .slice (some ⟨y, 0, none⟩) 1 1, .slice none 0 0] (by rfl) (by rfl) (World.news_of_block (cs := #[.int .i64 1, .slice (some ⟨y, 0, none⟩) 1 1, .slice none 0 0]) (t := 25) (fr := (0, 0)) (heap_alloc_new w4 _)) (by simp [Value.oneCell']) (by omega) (by unfold maxLen; omega) (by omega) (by have := HSUB.out; have := HY.out.2.2.size; simp; omega) _ rfl (fun z cap5 w5 hown hgrow hat hlt5 => ?_)
                  have hfar := HFAR.out _ _ (HY.out.2.2.alloc HY.out.2.2.size _) hgrow
                  have hcz := hfar.1
                  have hfz := hfar.2
                  have HFF : Hid (SetsAt (Ho + 2) Ho (Ho + 1) (C ++ [k]) (C ++ [k]) (.slice (some ⟨g, 0, none⟩) (cl + 1) cap) (.slice (some ⟨z, 0, none⟩) (cm + 1) cap5) (ys ++ [.int .i64 1, .slice (some ⟨y, 0, none⟩) 1 1, .slice none 0 0]) (w5.setCell ⟨Ho + 1, 2, none⟩ (.slice (some ⟨z, 0, none⟩) (cm + 1) cap5)) ∧ Below w1.heap.size w1 (w5.setCell ⟨Ho + 1, 2, none⟩ (.slice (some ⟨z, 0, none⟩) (cm + 1) cap5)) ∧ Ho + 2 ≤ (w5.setCell ⟨Ho + 1, 2, none⟩ (.slice (some ⟨z, 0, none⟩) (cm + 1) cap5)).heap.size) := HFIN.out w4 w5 _ y z cap5 HY.out.2.2 HY.out.1 HY.out.2.1 hown hgrow
                  refine hK _ _ ?_
                  clear hK K hfar hown hgrow hat hlt5
                  try simp only [Act.put, List.setIfInBounds_toArray, List.set_cons_zero, List.set_cons_succ]
                  refine wpAny_take (i := 6) (v := ?_) rfl (by kernel_rfl) (by kernel_rfl) (by kernel_rfl) (fun _ _ _ h => h) (Or.inl ⟨by rfl, ?_⟩) ?_
                  rotate_left
                  · intro w; go_simp; try with_reducible rfl
                  go_simp
                  refine wpAny_ready (rs := [7]) (by kernel_rfl) (by simp) ?_
                  refine AllReady.cons rfl (fun K hK => ?_) ?_
                  · skip
                    go_simp
                    refine hK _ _ ?_
                    clear hK K
                    refine wpAny_done (by kernel_rfl) ?_ _
                    go_wp2
                    go_roundw
                    case rel => exact ⟨k + 1, by omega, by go_num, _, _, _, by rw [HSC.out.2]; exact HFF.out.1, HFF.out.2.1, HFF.out.2.2⟩
                    case measure => simp [intOf]; omega
                  exact AllReady.nil
                exact AllReady.nil
              exact AllReady.nil
            refine AllReady.cons rfl (fun K hK => ?_) ?_
            · skip
              go_simp
              refine hK _ _ ?_
              clear hK K
              refine wpAny_ready (rs := [1]) (by kernel_rfl) (by simp) ?_
              refine AllReady.cons rfl (fun K hK => ?_) ?_
              · skip
                go_simp
                refine hK _ _ ?_
                clear hK K
                refine wpAny_ready (rs := [5]) (by kernel_rfl) (by simp) ?_
                refine AllReady.cons rfl (fun K hK => ?_) ?_
                · skip
                  refine step_append_lies _ (by rfl) _ _ 23 (by rfl) (Ho + 2) 25 n0 _ 3 56 Try.underlying23 HK.out.1 HK.out.2.1 HK.out.2.2.1 HK.out.2.2.2 rfl (by decide) (.slice a2 cm c2) cm ys (by rfl) (HA.out _ (HY.out.2.2.alloc HY.out.2.2.size _)).2 ⟨w4.heap.size, 0, none⟩ 1 1 [.int .i64 1, .slice (some ⟨y, 0, none⟩) 1 1, .slice none 0 0] (by rfl) (by rfl) (World.news_of_block (cs := #[.int .i64 1, .slice (some ⟨y, 0, none⟩) 1 1, .slice none 0 0]) (t := 25) (fr := (0, 0)) (heap_alloc_new w4 _)) (by simp [Value.oneCell']) (by omega) (by unfold maxLen; omega) (by omega) (by have := HSUB.out; have := HY.out.2.2.size; simp; omega) _ rfl (fun z cap5 w5 hown hgrow hat hlt5 => ?_)
                  have hfar := HFAR.out _ _ (HY.out.2.2.alloc HY.out.2.2.size _) hgrow
                  have hcz := hfar.1
                  have hfz := hfar.2
                  have HFF : Hid (SetsAt (Ho + 2) Ho (Ho + 1) (C ++ [k]) (C ++ [k]) (.slice (some ⟨g, 0, none⟩) (cl + 1) cap) (.slice (some ⟨z, 0, none⟩) (cm + 1) cap5) (ys ++ [.int .i64 1, .slice (some ⟨y, 0, none⟩) 1 1, .slice none 0 0]) (w5.setCell ⟨Ho + 1, 2, none⟩ (.slice (some ⟨z, 0, none⟩) (cm + 1) cap5)) ∧ Below w1.heap.size w1 (w5.setCell ⟨Ho + 1, 2, none⟩ (.slice (some ⟨z, 0, none⟩) (cm + 1) cap5)) ∧ Ho + 2 ≤ (w5.setCell ⟨Ho + 1, 2, none⟩ (.slice (some ⟨z, 0, none⟩) (cm + 1) cap5)).heap.size) := HFIN.out w4 w5 _ y z cap5 HY.out.2.2 HY.out.1 HY.out.2.1 hown hgrow
                  refine hK _ _ ?_
                  clear hK K hfar hown hgrow hat hlt5
                  try simp only [Act.put, List.setIfInBounds_toArray, List.set_cons_zero, List.set_cons_succ]
                  refine wpAny_take (i := 6) (v := ?_) rfl (by kernel_rfl) (by kernel_rfl) (by kernel_rfl) (fun _ _ _ h => h) (Or.inl ⟨by rfl, ?_⟩) ?_
                  rotate_left
                  · intro w; go_simp; try with_reducible rfl
                  go_simp
                  refine wpAny_ready (rs := [7]) (by kernel_rfl) (by simp) ?_
                  refine AllReady.cons rfl (fun K hK => ?_) ?_
                  · skip
                    go_simp
                    refine hK _ _ ?_
                    clear hK K
                    refine wpAny_done (by kernel_rfl) ?_ _
                    go_wp2
                    go_roundw
                    case rel => exact ⟨k + 1, by omega, by go_num, _, _, _, by rw [HSC.out.2]; exact HFF.out.1, HFF.out.2.1, HFF.out.2.2⟩
                    case measure => simp [intOf]; omega
                  exact AllReady.nil
                exact AllReady.nil
              exact AllReady.nil
            exact AllReady.nil
          exact AllReady.nil
      · obtain rfl : k = 24 := by omega
        have HEX : Hid (∃ v1 v2 ys, SetsAt (Ho + 2) Ho (Ho + 1) ((List.range 24).filter (selB mask)) ((List.range 24).filter (selB mask)) v1 v2 ys wr ∧ Below w1.heap.size w1 wr) := ⟨v1, v2, ys, by rw [← hC]; exact HS.out, HB.out.1⟩
        clear hC
        go_wp2
        go_meet
        exact HEX.out
  case rest =>
    obtain ⟨v1, v2, ys, hs, hb⟩ := hcut
    obtain ⟨w2, hw2⟩ : ∃ W, W = wc := ⟨_, rfl⟩
    rw [← hw2] at hs hb ⊢
    clear hw2 HST HBW
    obtain ⟨C, hC⟩ : ∃ C, C = (List.range 24).filter (selB mask) := ⟨_, rfl⟩
    rw [← hC] at hs
    have HB2 : Hid (Below w.heap.size w w2) := HB1.out.trans (hb.mono HB1.out.size)
    have hCm : ∀ c, c ∈ C ↔ c < 24 ∧ selB mask c = true := fun c => by rw [hC]; simp
    have hCl : C.length ≤ 24 := by rw [hC]; have := List.length_filter_le (selB mask) (List.range 24); simp at this; omega
    have hris : risB (-1) (toI C) = true := by
      have := risB_filter (selB mask) 24 (by omega) (-1) 0 (by omega) (by omega)
      rw [hC, List.range_eq_range']
      exact this
    have HOK1 : Hid ((⟨1, toI C, .nil⟩ : Nd).ok = true) := ok_oneset C hris
    have HOK2 : Hid ((⟨3, [], ofL (C.map fun (c : Nat) => setNd (c : Int))⟩ : Nd).ok = true) := ok_allsets C (fun c hc => by have := ((hCm c).1 hc).1; omega) hCl
    obtain ⟨h1, h2, h3, h4, h5⟩ := hs
    obtain ⟨a1, c1, rfl⟩ := own_sl1 h3
    obtain ⟨a2, c2, rfl⟩ := own_sl1 h4
    have hle : (toI C).length = C.length := by simp [toI]
    have HI1 : Hid (InV w2.heap.size w2 1 ⟨1, toI C, .nil⟩ [.int .i64 1, .slice a1 C.length c1, .slice none 0 0]) := by
      have h3' := h3
      rw [← toI_map, ← hle] at h3'
      obtain ⟨a', c', e', _, _, hr, hn⟩ := rd_own2 h3'
      rw [hle] at e'
      cases e'
      have := InV.leaf w2 0 1 (toI C) a1 c1 hr (by omega) hn
      rw [hle] at this
      exact this
    have HI2 : Hid (∀ V : World, Below w2.heap.size w2 V → InV V.heap.size V 2 ⟨3, [], ofL (C.map fun (c : Nat) => setNd (c : Int))⟩ [.int .i64 3, .slice none 0 0, .slice a2 C.length c2]) := by
      intro V hV
      refine (InV.later hV 2 ?_).base hV.size 2
      rcases h4.2 with ⟨hv, h0⟩ | ⟨gy, capy, cur, hv, hgB, hgy, _, _, _, htk⟩
      · have hC0 : C = [] := List.eq_nil_of_length_eq_zero h0
        subst hC0
        simp only [Value.slice.injEq] at hv
        obtain ⟨rfl, _, rfl⟩ := hv
        exact (InV.leaf w2 0 3 [] none 0 (rd_nil _ _) (by simp) (fun _ => rfl)).deep 1
      · cases hv
        have hnl : (C.map fun (c : Nat) => setNd (c : Int)).length = C.length := by simp
        have := InV.node (B := w2.heap.size) (d := 1) 3 (C.map fun (c : Nat) => setNd (c : Int)) gy c2 hgy (by rw [hnl]; omega) (fun i hi => by
          have hi' : i < C.length := by rw [← hnl]; exact hi
          obtain ⟨g, q1, q2, q3, q4, _⟩ := h5 i hi'
          have cur_at : ∀ j u, j < C.length * 3 → ys[j]? = some u → cur[j]? = some u := fun j u hj hu => by
            rw [← htk, List.getElem?_take, if_pos hj] at hu
            simpa using hu
          refine ⟨[.int .i64 1, .slice (some ⟨g, 0, none⟩) 1 1, .slice none 0 0], ?_, three_cells (cur_at _ _ (by omega) q1) (cur_at _ _ (by omega) q2) (cur_at _ _ (by omega) q3)⟩
          rw [List.getElem_map]
          exact InV.leaf w2 0 1 [(C[i] : Int)] (some ⟨g, 0, none⟩) 1 ⟨rfl, fun _ => ⟨g, 0, rfl, fun t ht => by
            have ht0 : t = 0 := by simp at ht; exact ht
            subst ht0
            exact cell_of_row w2 g 0 _ _ _ q4⟩⟩ (by simp) (fun h => by cases h))
        rw [hnl] at this
        exact this
    obtain ⟨cl, hcl⟩ : ∃ cl, cl = C.length := ⟨_, rfl⟩
    rw [← hcl] at HI1 HI2 h1 h2
    have HCL : Hid (cl = C.length ∧ cl ≤ 24) := ⟨hcl, by omega⟩
    have HE : Hid (∀ V : World, Below w2.heap.size w2 V → (V.cell? ⟨Ho, 0, none⟩ = some (.int .i64 1) ∧ V.cell? ⟨Ho, 1, none⟩ = some (.slice a1 cl c1) ∧ V.cell? ⟨Ho, 2, none⟩ = some (.slice none 0 0)) ∧ V.cell? ⟨Ho + 1, 0, none⟩ = some (.int .i64 3) ∧ V.cell? ⟨Ho + 1, 1, none⟩ = some (.slice none 0 0) ∧ V.cell? ⟨Ho + 1, 2, none⟩ = some (.slice a2 cl c2)) := fun V hV =>
      ⟨⟨upC hV (cell_of_row w2 Ho 0 _ _ _ h1), upC hV (cell_of_row w2 Ho 1 _ _ _ h1), upC hV (cell_of_row w2 Ho 2 _ _ _ h1)⟩, upC hV (cell_of_row w2 (Ho + 1) 0 _ _ _ h2), upC hV (cell_of_row w2 (Ho + 1) 1 _ _ _ h2), upC hV (cell_of_row w2 (Ho + 1) 2 _ _ _ h2)⟩
    have HF1 : Hid (Calls Try.prog 26 #[.agg #[.int .i64 1, .slice a1 cl c1, .slice none 0 0]] w2 fun e w' => ∃ bm, e = .returned (.pointer (some ⟨bm, 0, none⟩)) ∧ NMach w2.heap.size w' bm ⟨1, toI C, .nil⟩ ∧ Below w2.heap.size w2 w') := by
      have h0 := HI1.out
      rw [hcl, ← hle] at h0 ⊢
      exact fits_any 1 ⟨1, toI C, .nil⟩ a1 none c1 0 w2 h0 HOK1.out
    have HF2 : Hid (∀ V : World, Below w2.heap.size w2 V → Calls Try.prog 26 #[.agg #[.int .i64 3, .slice none 0 0, .slice a2 cl c2]] V fun e w' => ∃ bm, e = .returned (.pointer (some ⟨bm, 0, none⟩)) ∧ NMach V.heap.size w' bm ⟨3, [], ofL (C.map fun (c : Nat) => setNd (c : Int))⟩ ∧ Below V.heap.size V w') := fun V hV =>
      fitsC_any 2 3 (C.map fun (c : Nat) => setNd (c : Int)) a2 cl c2 V (HI2.out V hV) (by rw [hcl]; simp) HOK2.out
    have HWANT : Hid (∀ b : Bool, (b = true ↔ ∃ c, c ∈ C ∧ xs = [(c : Int)]) → (b = true ↔ (⟨1, toI C, .nil⟩ : Nd).fits xs) ∧ (b = true ↔ (⟨3, [], ofL (C.map fun (c : Nat) => setNd (c : Int))⟩ : Nd).fits xs)) := fun b hb => ⟨hb.trans (fits_one C xs).symm, hb.trans (fits_all C xs).symm⟩
    have HCM : Hid (∀ c, c ∈ C ↔ c < 24 ∧ selB mask c = true) := hCm
    clear hb hC hCm hCl hris h1 h2 h3 h4 h5 hle hcl HI1
    obtain ⟨⟨e0, e1, e2⟩, f0, f1, f2⟩ := HE.out w2 (Below.refl _ _)
    go_wp2_with fail
    refine HF1.out.mono ?_
    rintro e w3 ⟨m1, rfl, hm1, hb3⟩
    have B3 : Hid (Below w2.heap.size w2 w3) := hb3
    have M1 : Hid (∀ V : World, Below w3.heap.size w3 V → NMach w2.heap.size V m1 ⟨1, toI C, .nil⟩) := fun V hV => hm1.later hV
    clear hm1 hb3 e0 e1 e2 f0 f1 f2
    obtain ⟨⟨e0, e1, e2⟩, f0, f1, f2⟩ := HE.out w3 B3.out
    go_wp2_with fail
    refine (HF2.out w3 B3.out).mono ?_
    rintro e w4 ⟨m2, rfl, hm2, hb4⟩
    have B4 : Hid (Below w3.heap.size w3 w4) := hb4
    have M2 : Hid (∀ V : World, Below w4.heap.size w4 V → NMach w3.heap.size V m2 ⟨3, [], ofL (C.map fun (c : Nat) => setNd (c : Int))⟩) := fun V hV => hm2.later hV
    have B24 : Hid (Below w.heap.size w w4) := HB2.out.trans ((B3.out.trans (hb4.mono B3.out.size)).mono HB2.out.size)
    have HRW : Hid (∀ V : World, Below w4.heap.size w4 V → Rd .i64 V a len xs) := fun V hV => HRD.out.later (B24.out.trans (hV.mono B24.out.size))
    clear hm2 hb4 e0 e1 e2 f0 f1 f2
    have HEND : Hid (∀ (b : Bool) (V : World), Below w4.heap.size w4 V → (b = true ↔ ∃ c, c ∈ C ∧ xs = [(c : Int)]) → (Calls Try.prog 23 #[.pointer (some ⟨m1, 0, none⟩), .slice a len cap] V fun e w' => e = .returned (.bool b) ∧ Below V.heap.size V w') ∧ (Calls Try.prog 23 #[.pointer (some ⟨m2, 0, none⟩), .slice a len cap] V fun e w' => e = .returned (.bool b) ∧ Below V.heap.size V w')) := by
      intro b V hV hb
      obtain ⟨h1, h2⟩ := HWANT.out b hb
      exact ⟨matchT_any _ V m1 _ xs a len cap (M1.out V (B4.out.trans (hV.mono B4.out.size))) (HRW.out V hV) (by omega) b h1, matchT_any _ V m2 _ xs a len cap (M2.out V hV) (HRW.out V hV) (by omega) b h2⟩
    by_cases h1 : len = 1
    · subst h1
      obtain ⟨b0, off, rfl, hcl⟩ := (HRW.out w4 (Below.refl _ _)).2 (by omega)
      have hc0 := hcl 0 (by omega)
      rw [Nat.add_zero] at hc0
      obtain ⟨r, hr⟩ : ∃ r, r = xs.getD 0 0 := ⟨_, rfl⟩
      have HXS : Hid (xs = [r]) := by
        show xs = [r]
        have hl := HL.out
        match xs, hl with
        | [q], _ => rw [hr]; rfl
      rw [← hr] at hc0
      clear hcl hr
      by_cases hn : r < 0
      · have hr0 : decide (r ≥ 0) = false := by simp; omega
        have HNO : Hid (false = true ↔ ∃ c, c ∈ C ∧ xs = [(c : Int)]) := ⟨fun h => (by cases h), fun ⟨c, hc, h⟩ => by
          have h2 := HXS.out
          rw [h] at h2
          have := ((HCM.out c).1 hc).1
          simp at h2
          omega⟩
        go_wp2_with fail
        refine (HEND.out false w4 (Below.refl _ _) HNO.out).1.mono ?_
        rintro e u1 ⟨rfl, hv1⟩
        have U1 : Hid (Below w4.heap.size w4 u1) := hv1
        clear hv1
        go_wp2_with fail
        refine (HEND.out false u1 U1.out HNO.out).2.mono ?_
        rintro e u2 ⟨rfl, hv2⟩
        have U2 : Hid (Below w.heap.size w u2) := B24.out.trans ((U1.out.trans (hv2.mono U1.out.size)).mono B24.out.size)
        clear hv2
        go_wp2
        go_ret
        exact ⟨rfl, U2.out⟩
      by_cases hg : 24 ≤ r
      · have hr0 : decide (r ≥ 0) = true := by simp; omega
        have hr1 : decide (r < 24) = false := by simp; omega
        have HNO : Hid (false = true ↔ ∃ c, c ∈ C ∧ xs = [(c : Int)]) := ⟨fun h => (by cases h), fun ⟨c, hc, h⟩ => by
          have h2 := HXS.out
          rw [h] at h2
          have := ((HCM.out c).1 hc).1
          simp at h2
          omega⟩
        go_wp2_with fail
        refine (HEND.out false w4 (Below.refl _ _) HNO.out).1.mono ?_
        rintro e u1 ⟨rfl, hv1⟩
        have U1 : Hid (Below w4.heap.size w4 u1) := hv1
        clear hv1
        go_wp2_with fail
        refine (HEND.out false u1 U1.out HNO.out).2.mono ?_
        rintro e u2 ⟨rfl, hv2⟩
        have U2 : Hid (Below w.heap.size w u2) := B24.out.trans ((U1.out.trans (hv2.mono U1.out.size)).mono B24.out.size)
        clear hv2
        go_wp2
        go_ret
        exact ⟨rfl, U2.out⟩
      obtain ⟨q, rfl⟩ := Int.eq_ofNat_of_zero_le (show 0 ≤ r by omega)
      have hq : q < 24 := by omega
      have hand : bits .and .i64 (q : Int) 31 = (q : Int) := by
        rw [and_low (q : Int) 31 5 (by omega) (by decide)]
        omega
      obtain ⟨b, hbb⟩ : ∃ b, b = selB mask q := ⟨_, rfl⟩
      have hbit : (bits .and .i64 (mask / 2 ^ q) 1 == 1) = b := by rw [hbb]; rfl
      have HNO : Hid (b = true ↔ ∃ c, c ∈ C ∧ xs = [(c : Int)]) := by
        constructor
        · intro h
          exact ⟨q, (HCM.out q).2 ⟨hq, by rw [← hbb]; exact h⟩, HXS.out⟩
        · rintro ⟨c, hc, h⟩
          have h2 := HXS.out
          rw [h] at h2
          have hcq : c = q := by simp at h2; omega
          rw [hbb, ← hcq]
          exact ((HCM.out c).1 hc).2
      clear hbb hn hg
      go_wp2_with fail
      refine (HEND.out b w4 (Below.refl _ _) HNO.out).1.mono ?_
      rintro e u1 ⟨rfl, hv1⟩
      have U1 : Hid (Below w4.heap.size w4 u1) := hv1
      clear hv1
      go_wp2_with fail
      refine (HEND.out b u1 U1.out HNO.out).2.mono ?_
      rintro e u2 ⟨rfl, hv2⟩
      have U2 : Hid (Below w.heap.size w u2) := B24.out.trans ((U1.out.trans (hv2.mono U1.out.size)).mono B24.out.size)
      clear hv2
      go_wp2
      go_ret
      exact ⟨rfl, U2.out⟩
    · have hb1 : ((len : Int) == 1) = false := by rw [beq_eq_false_iff_ne]; omega
      have hno : false = true ↔ ∃ c, c ∈ C ∧ xs = [(c : Int)] := ⟨fun h => (by cases h), fun ⟨c, _, h⟩ => by have := HL.out; rw [h] at this; simp at this; omega⟩
      have HNO : Hid (false = true ↔ ∃ c, c ∈ C ∧ xs = [(c : Int)]) := hno
      clear hno
      go_wp2_with fail
      refine (HEND.out false w4 (Below.refl _ _) HNO.out).1.mono ?_
      rintro e u1 ⟨rfl, hv1⟩
      have U1 : Hid (Below w4.heap.size w4 u1) := hv1
      clear hv1
      go_wp2_with fail
      refine (HEND.out false u1 U1.out HNO.out).2.mono ?_
      rintro e u2 ⟨rfl, hv2⟩
      have U2 : Hid (Below w.heap.size w u2) := B24.out.trans ((U1.out.trans (hv2.mono U1.out.size)).mono B24.out.size)
      clear hv2
      go_wp2
      go_ret
      exact ⟨rfl, U2.out⟩
end Go.Proofs.Ytodaoelkljaflaa
