/- In one text: DfaPb, DfaPc. -/
import Derived.Test.YtclogekfdmikpaaDoorJ06
/- The walk of put: one node more in a plan. -/
namespace Go.Proofs.YtclogekfdmikpaaDoor
open Go.RowKit Go.Shelf
set_option linter.unusedVariables false
set_option linter.unusedSimpArgs false

def spnA (s : Sp) : Array Value := #[.bool s.em, nwV s.fi 0, nwV s.fi 1, nwV s.fi 2, nwV s.fi 3, nwV s.fi 4, nwV s.fi 5, nwV s.fi 6, nwV s.en 0, nwV s.en 1, nwV s.en 2, nwV s.en 3, nwV s.en 4, nwV s.en 5, nwV s.en 6]
theorem tkM_snoc (c : Int) (e : List Int × Nat) : (l : Pl) → (i : Nat) → tkM c (l ++ [e]) i = tkM c l i ||| (if c ∈ e.1 then 2 ^ (i + l.length) else 0)
 | [], i => by simp [tkM]
 | x :: l, i => by
   show _ ||| tkM c (l ++ [e]) (i + 1) = _
   rw [tkM_snoc c e l (i + 1), tkM, Nat.or_assoc]
   congr 3
   simp only [List.length_cons]
   rw [show i + 1 + l.length = i + (l.length + 1) by omega]
theorem nw_zero (i : Nat) : nw 0 i = 0 := by unfold nw; rw [Nat.zero_div, Nat.zero_mod]
theorem nsA_zero : (nsA 0).toList = [.int .u64 0, .int .u64 0, .int .u64 0, .int .u64 0, .int .u64 0, .int .u64 0, .int .u64 0] := by simp [nsA, nwV, nw_zero]
theorem grown_put {w wr : World} {H i : Nat} (v : Value) (h : w.grownBy wr (some H)) : w.grownBy (wr.setCell ⟨H, i, none⟩ v) (some H) := grown_all h (grown_cell wr H i v)
theorem grown_refl (w : World) (row : Option Nat) : w.grownBy w row := ⟨rfl, rfl, rfl, Nat.le_refl _, fun _ _ _ => rfl⟩
theorem PlanAt.kept {n0 : Nat} {w w' : World} {bp : Nat} {cs : Array Value} {v : Value} {wh : Bool} {l : Pl} {H : Nat} {hs : Array Value} {t : TypeId} {fr : Nat × Nat} (h : PlanAt n0 w bp cs v wh l) (hg : w.grownBy w' (some H)) (hH : w.heap[H]? = some (.cells hs t fr)) (h1 : t ≠ 120) (h2 : t ≠ 142) : PlanAt n0 w' bp cs v wh l := by
 refine ⟨(hg.block bp (Array.getElem?_eq_some_iff.1 h.blk).1 (fun e => ?_)).trans h.blk, h.size, h.low, h.wh, h.tk, h.beh, h.own.kept hg (.inr fun e => ?_), h.few, h.apart⟩
 ·have := Option.some.inj e
  subst this
  rw [h.blk] at hH
  cases hH
  exact h2 rfl
 ·obtain ⟨_, _, cur, hcur⟩ := own_lt h.own e
  rw [hH] at hcur
  cases hcur
  exact h1 rfl
theorem PlanAt.later {n0 : Nat} {w w' : World} {bp : Nat} {cs : Array Value} {v : Value} {wh : Bool} {l : Pl} (h : PlanAt n0 w bp cs v wh l) (hb : Below w.heap.size w w') : PlanAt n0 w' bp cs v wh l :=
 ⟨(hb.block bp (Array.getElem?_eq_some_iff.1 h.blk).1).trans h.blk, h.size, h.low, h.wh, h.tk, h.beh, own_later5 h.own hb, h.few, h.apart⟩
theorem FrS.new {w wr w' : World} {H : Nat} (h : FrS w wr) (hg : wr.grownBy w' (some H)) (hH : w.heap.size ≤ H) : FrS w w' :=
 ⟨Nat.le_trans h.size hg.size, fun b cs t fr hb h1 h2 => (hg.block b (Nat.lt_of_lt_of_le (Array.getElem?_eq_some_iff.1 hb).1 h.size) (fun e => by
  have := Option.some.inj e
  have := (Array.getElem?_eq_some_iff.1 hb).1
  omega)).trans (h.same b cs t fr hb h1 h2)⟩
structure PutAt (n0 : Nat) (w : World) (bp : Nat) (cs : Array Value) (v : Value) (wh : Bool) (l : Pl) (cl : List Int) (k : Nat) : Prop where
 blk : w.heap[bp]? = some (.cells cs 142)
 size : cs.size = 185
 low : n0 ≤ bp
 wh : cs[15]? = some (.bool wh)
 tk : ∀ c, c < 24 → NsIn cs (16 + c * 7) (tkM (Int.ofNat c) l 0 ||| (if Int.ofNat c ∈ cl.take k then 2 ^ l.length else 0))
 beh : cs[184]? = some v
 own : w.ownsRow n0 120 7 v (l.length + 1) (behA (l ++ [(cl, 0)]))
theorem PutAt.done {n0 : Nat} {w : World} {bp : Nat} {cs : Array Value} {v : Value} {wh : Bool} {l : Pl} {cl : List Int} {k : Nat} (h : PutAt n0 w bp cs v wh l cl k) (hk : cl.length ≤ k) (hl : l.length < 448) : PlanAt n0 w bp cs v wh (l ++ [(cl, 0)]) := by
 refine ⟨h.blk, h.size, h.low, h.wh, fun c hc => ?_, h.beh, by rw [List.length_append]; exact h.own, by simp; omega, fun e => ?_⟩
 ·have := h.tk c hc
  rw [List.take_of_length_le hk] at this
  rw [tkM_snoc, Nat.zero_add]
  exact this
 ·obtain ⟨_, _, cur, hcur⟩ := own_lt h.own e
  rw [h.blk] at hcur
  cases hcur
theorem take_mem {cl : List Int} {k : Nat} (h : k < cl.length) (c : Int) : c ∈ cl.take (k + 1) ↔ c ∈ cl.take k ∨ c = cl[k] := by
 rw [List.take_succ_eq_append_getElem h, List.mem_append, List.mem_singleton]
theorem PutAt.step {n0 : Nat} {w w' : World} {bp : Nat} {cs cs' : Array Value} {v : Value} {wh : Bool} {l : Pl} {cl : List Int} {k : Nat} (h : PutAt n0 w bp cs v wh l cl k) (hk : k < cl.length) {c : Nat} (hc : cl[k] = Int.ofNat c) (hc24 : c < 24)
 (hg : w.grownBy w' (some bp)) (hb : w'.heap[bp]? = some (.cells cs' 142)) (hj : JnP cs cs' (16 + c * 7) 7 (tkM (Int.ofNat c) l 0 ||| (if Int.ofNat c ∈ cl.take k then 2 ^ l.length else 0)) (2 ^ l.length)) : PutAt n0 w' bp cs' v wh l cl (k + 1) := by
 refine ⟨hb, by rw [hj.size]; exact h.size, h.low, (hj.rest 15 (by omega)).trans h.wh, fun d hd i hi => ?_, (hj.rest 184 (by omega)).trans h.beh, h.own.kept hg (.inr fun e => ?_)⟩
 ·by_cases e : d = c
  ·subst e
   rw [hj.done i hi]
   congr 2
   have : Int.ofNat d ∈ cl.take (k + 1) := (take_mem hk _).2 (.inr hc.symm)
   rw [if_pos this]
   by_cases h1 : Int.ofNat d ∈ cl.take k
   ·rw [if_pos h1, Nat.or_assoc, Nat.or_self]
   ·rw [if_neg h1, Nat.or_zero]
  ·rw [hj.rest _ (by omega), h.tk d hd i hi]
   congr 3
   have h2 : (Int.ofNat d ∈ cl.take (k + 1)) ↔ (Int.ofNat d ∈ cl.take k) := by
    rw [take_mem hk, hc]
    exact ⟨fun h3 => h3.resolve_right (fun h4 => e (Int.ofNat.inj h4)), .inl⟩
   by_cases h1 : Int.ofNat d ∈ cl.take k
   ·rw [if_pos h1, if_pos (h2.2 h1)]
   ·rw [if_neg h1, if_neg (fun h3 => h1 (h2.1 h3))]
 ·obtain ⟨_, _, cur, hcur⟩ := own_lt h.own e
  rw [h.blk] at hcur
  cases hcur
theorem info_ns : (Tryd.prog.info? 120).map (fun i => (i.zero, i.size, i.bytes)) = some (some (.agg #[.int .u64 0, .int .u64 0, .int .u64 0, .int .u64 0, .int .u64 0, .int .u64 0, .int .u64 0]), 7, 56) := by kernel_rfl
set_option maxRecDepth 100000 in
set_option maxHeartbeats 4000000 in
theorem put_any (w0 w : World) (bp : Nat) (cs : Array Value) (v : Value) (wh : Bool) (l : Pl) (cl : List Int) (ca : Option Addr) (cc : Nat) (hb0 : Below w0.heap.size w0 w) (h : PlanAt w0.heap.size w bp cs v wh l) (hl : l.length < 448)
 (hrd : Rd .i64 w0 ca cl.length cl) (hcl : cl.length ≤ 140737488355328) (hc : ∀ c ∈ cl, 0 ≤ c ∧ c < 24) :
 Calls Tryd.prog 86 #[.pointer (some ⟨bp, 0, none⟩), .slice ca cl.length cc] w fun e w' => e = .returned (.agg (spnA ⟨false, 2 ^ l.length, 2 ^ l.length⟩)) ∧ (∃ cs' v', PlanAt w0.heap.size w' bp cs' v' wh (l ++ [(cl, 0)])) ∧ Below w0.heap.size w0 w' ∧ FrS w w' := by
 obtain ⟨n, hn⟩ : ∃ n, n = l.length := ⟨_, rfl⟩
 obtain ⟨m, hm⟩ : ∃ m, m = cl.length := ⟨_, rfl⟩
 obtain ⟨va, vc, hv⟩ := own_sl1 h.own
 subst hv
 have HP : Hid (PlanAt w0.heap.size w bp cs (.slice va l.length vc) wh l) := h
 obtain ⟨wA, hwA⟩ : ∃ wA, wA = w.alloc (.cells #[.bool false, .int .u64 0, .int .u64 0, .int .u64 0, .int .u64 0, .int .u64 0, .int .u64 0, .int .u64 0, .int .u64 0, .int .u64 0, .int .u64 0, .int .u64 0, .int .u64 0, .int .u64 0, .int .u64 0] 138) := ⟨_, rfl⟩
 obtain ⟨H, hH⟩ : ∃ H, H = w.heap.size := ⟨_, rfl⟩
 have HBA : Hid (Below w.heap.size w wA) := by rw [hwA]; exact (Below.refl _ w).alloc (Nat.le_refl _) _
 have HHW : Hid (w.heap.size ≤ H) := by rw [hH]; exact Nat.le_refl _
 have HHA : Hid (wA.heap[H]? = some (.cells #[.bool false, .int .u64 0, .int .u64 0, .int .u64 0, .int .u64 0, .int .u64 0, .int .u64 0, .int .u64 0, .int .u64 0, .int .u64 0, .int .u64 0, .int .u64 0, .int .u64 0, .int .u64 0, .int .u64 0] 138)) := by show _ = _; rw [hwA, hH]; exact heap_alloc_new w _
 have hbp : wA.heap[bp]? = some (.cells cs 142) := (HBA.out.block bp (Array.getElem?_eq_some_iff.1 h.blk).1).trans h.blk
 have c184 : wA.cell? ⟨bp, 184, none⟩ = some (.slice va n vc) := by rw [hn]; exact (cell_of_row wA bp 184 _ _ _ hbp).trans h.beh
 have hnle : n < 448 := by omega
 have HC : Hid (Calls Tryd.prog 94 #[.int .i64 (n : Int)] wA fun e w' => e = .returned (.agg #[.int .u64 (nw (2 ^ n) 0 : Int), .int .u64 (nw (2 ^ n) 1 : Int), .int .u64 (nw (2 ^ n) 2 : Int), .int .u64 (nw (2 ^ n) 3 : Int), .int .u64 (nw (2 ^ n) 4 : Int), .int .u64 (nw (2 ^ n) 5 : Int), .int .u64 (nw (2 ^ n) 6 : Int)]) ∧ Below wA.heap.size wA w') := only_any n hnle wA
 have HN : Hid (n = l.length) := hn
 have HM : Hid (m = cl.length) := hm
 have HB0 : Hid (Below w0.heap.size w0 w) := hb0
 have HRD : Hid (Rd .i64 w0 ca cl.length cl) := hrd
 have HCL : Hid (∀ c ∈ cl, 0 ≤ c ∧ c < 24) := hc
 have hni : (n : Int) < 448 := by omega
 have hmi : (m : Int) ≤ 140737488355328 := by omega
 rw [← hn, ← hm]
 clear h hl hn hm hb0 hrd hcl hc hbp
 go_enter Tryd.func86, Tryd.ntmps86
 go_upto_region 1 with fail
 rw [← hH, ← hwA]
 clear hH hwA
 go_wp2_with fail
 refine HC.out.mono ?_
 rintro e w1 ⟨rfl, hb1⟩
 obtain ⟨i0, ji, jz0, jz1, jz2⟩ := info_parts info_ns
 have HJ : Hid (Tryd.prog.info? 120 = some i0 ∧ i0.zero = some (.agg #[.int .u64 0, .int .u64 0, .int .u64 0, .int .u64 0, .int .u64 0, .int .u64 0, .int .u64 0]) ∧ i0.size = 7 ∧ i0.bytes = 56) := ⟨ji, jz0, jz1, jz2⟩
 clear ji jz0 jz1 jz2 HC c184
 obtain ⟨wB, hwB⟩ : ∃ wB, wB = w1.alloc (.cells #[.int .u64 (nw (2 ^ n) 0 : Int), .int .u64 (nw (2 ^ n) 1 : Int), .int .u64 (nw (2 ^ n) 2 : Int), .int .u64 (nw (2 ^ n) 3 : Int), .int .u64 (nw (2 ^ n) 4 : Int), .int .u64 (nw (2 ^ n) 5 : Int), .int .u64 (nw (2 ^ n) 6 : Int)] 120) := ⟨_, rfl⟩
 obtain ⟨H1, hH1⟩ : ∃ H1, H1 = w1.heap.size := ⟨_, rfl⟩
 have HB1 : Hid (Below wA.heap.size wA wB) := by rw [hwB]; exact hb1.trans (((Below.refl _ w1).alloc (Nat.le_refl _) _).mono hb1.size)
 have HWB : Hid (Below w.heap.size w wB) := HBA.out.trans (HB1.out.mono HBA.out.size)
 have HH1 : Hid (wB.heap[H1]? = some (.cells (nsA (2 ^ n)) 120) ∧ wA.heap.size ≤ H1) := ⟨by rw [hwB, hH1]; exact heap_alloc_new w1 _, by rw [hH1]; exact hb1.size⟩
 have HW0B : Hid (Below w0.heap.size w0 wB) := HB0.out.trans (HWB.out.mono HB0.out.size)
 have HOB : Hid (wB.ownsRow w0.heap.size 120 7 (.slice va n vc) n (behA l)) := by rw [HN.out]; exact own_later5 HP.out.own HWB.out
 have HBPB : Hid (wB.heap[bp]? = some (.cells cs 142)) := (HWB.out.block bp (Array.getElem?_eq_some_iff.1 HP.out.blk).1).trans HP.out.blk
 have c184 : wB.cell? ⟨bp, 184, none⟩ = some (.slice va n vc) := by rw [HN.out]; exact (cell_of_row wB bp 184 _ _ _ HBPB.out).trans HP.out.beh
 have HBASE : Hid (w0.heap.size ≤ wB.heap.size) := HW0B.out.size
 have HNE : Hid (some bp ≠ (Value.slice va n vc).ownBlock) := fun e => by
  obtain ⟨_, _, cur, hcur⟩ := own_lt HOB.out e.symm
  rw [HBPB.out] at hcur
  cases hcur
 go_upto_region 2 with fail
 rw [← hwB, ← hH1]
 clear hwB hH1 hb1
 go_upto_region 3 with (at_builtin; refine wpList_append_lies _ rfl _ _ 140 rfl w0.heap.size 120 i0 _ 7 56 Tryd.underlying140 HJ.out.1 HJ.out.2.1 HJ.out.2.2.1 HJ.out.2.2.2 rfl (by decide) (.slice va n vc) n (behA l) rfl (own_later5 HOB.out ((Below.refl _ wB).alloc (Nat.le_refl _) _)) ⟨wB.heap.size, 0, none⟩ 1 1 [.int .u64 0, .int .u64 0, .int .u64 0, .int .u64 0, .int .u64 0, .int .u64 0, .int .u64 0] rfl rfl (World.news_of_block (cs := #[.int .u64 0, .int .u64 0, .int .u64 0, .int .u64 0, .int .u64 0, .int .u64 0, .int .u64 0]) (t := 120) (fr := (0, 0)) (heap_alloc_new wB _)) (by simp [Value.oneCell']) (by omega) (by unfold maxLen; omega) (by omega) (by have := HBASE.out; simp; omega) _ rfl (fun g cap w2 q1 q2 q3 q4 => ?_); have Q1 : Hid (w2.ownsRow w0.heap.size 120 7 (.slice (some ⟨g, 0, none⟩) (n + 1) cap) (n + 1) (behA l ++ [.int .u64 0, .int .u64 0, .int .u64 0, .int .u64 0, .int .u64 0, .int .u64 0, .int .u64 0]) ∧ (wB.alloc (.cells #[.int .u64 0, .int .u64 0, .int .u64 0, .int .u64 0, .int .u64 0, .int .u64 0, .int .u64 0] 120)).grownBy w2 (Value.slice va n vc).ownBlock) := ⟨q1, q2⟩; have hup : w2.heap[bp]? = some (.cells cs 142) := (q2.block bp (by have := (Array.getElem?_eq_some_iff.1 HBPB.out).1; simp; omega) HNE.out).trans ((((Below.refl _ wB).alloc (Nat.le_refl _) _).block bp (Array.getElem?_eq_some_iff.1 HBPB.out).1).trans HBPB.out); have HUP : Hid (w2.heap[bp]? = some (.cells cs 142)) := hup; have e1 : w2.cell? ⟨bp, 184, none⟩ = some (.slice va n vc) := (by rw [HN.out]; exact (cell_of_row w2 bp 184 _ _ _ hup).trans HP.out.beh); have f1 : w2.frozen? ⟨bp, 184, none⟩ = false := Lib.frozen_of_heap hup 184; clear q1 q2 q3 q4 hup c184)
 obtain ⟨w3, hw3⟩ : ∃ w3, w3 = w2.setCell ⟨bp, 184, none⟩ (.slice (some ⟨g, 0, none⟩) (n + 1) cap) := ⟨_, rfl⟩
 rw [← hw3]
 obtain ⟨q1, q2⟩ := Q1.out
 have hbB : Below wB.heap.size wB (wB.alloc (.cells #[.int .u64 0, .int .u64 0, .int .u64 0, .int .u64 0, .int .u64 0, .int .u64 0, .int .u64 0] 120)) := (Below.refl _ wB).alloc (Nat.le_refl _) _
 have hown_ne : ∀ b cs t fr, wB.heap[b]? = some (Obj.cells cs t fr) → t ≠ 120 → w2.heap[b]? = some (Obj.cells cs t fr) := fun b cs t fr hb ht => by
  have hlt := (Array.getElem?_eq_some_iff.1 hb).1
  refine (q2.block b (Nat.lt_of_lt_of_le hlt hbB.size) (fun e => ?_)).trans ((hbB.block b hlt).trans hb)
  obtain ⟨_, _, cur, hcur⟩ := own_lt HOB.out e.symm
  rw [hb] at hcur
  cases hcur
  exact ht rfl
 have HB23 : Hid (Below w0.heap.size w0 w3) := by
  have h1 : Below w0.heap.size w0 w2 := (HW0B.out.trans (hbB.mono HBASE.out)).grown q2 (Nat.le_trans HBASE.out hbB.size) (fun k e => (own_lt HOB.out e).1)
  rw [hw3]
  exact h1.setCell (p := ⟨bp, 184, none⟩) HP.out.low _
 have HF3 : Hid (FrS w w3) := by
  refine ⟨?_, fun b cs' t fr hb h1 h2 => ?_⟩
  ·rw [hw3]
   have := q2.size
   have := HWB.out.size
   have := hbB.size
   simp [World.setCell] at *
   omega
  ·have hb2 := hown_ne b cs' t fr ((HWB.out.block b (Array.getElem?_eq_some_iff.1 hb).1).trans hb) h1
   rw [hw3]
   refine ((grown_cell w2 bp 184 _).block b (Array.getElem?_eq_some_iff.1 hb2).1 (fun e => ?_)).trans hb2
   have := Option.some.inj e
   subst this
   rw [HUP.out] at hb2
   cases hb2
   exact h2 rfl
 have HPU : Hid (PutAt w0.heap.size w3 bp (cs.setIfInBounds 184 (.slice (some ⟨g, 0, none⟩) (n + 1) cap)) (.slice (some ⟨g, 0, none⟩) (n + 1) cap) wh l cl 0) := by
  rw [hw3]
  have hp := HP.out
  refine ⟨heap_setCell_same w2 bp 184 _ _ _ HUP.out, by simp [hp.size], hp.low, ?_, fun c hc i hi => ?_, ?_, ?_⟩
  ·rw [Array.getElem?_setIfInBounds, if_neg (by omega)]; exact hp.wh
  ·rw [Array.getElem?_setIfInBounds, if_neg (by omega)]
   simp only [List.take_zero, List.not_mem_nil, if_false, Nat.or_zero]
   exact hp.tk c hc i hi
  ·simp [hp.size]
  ·rw [behA_snoc, ← HN.out]
   show World.ownsRow _ _ _ _ _ _ (behA l ++ (nsA 0).toList)
   rw [nsA_zero]
   refine World.ownsRow.kept (w := w2) q1 (grown_cell w2 bp 184 _) (.inr fun e => ?_)
   obtain ⟨_, _, cur, hcur⟩ := own_lt q1 e
   rw [HUP.out] at hcur
   cases hcur
 have HGW : Hid (w3.heap[H1]? = some (.cells (nsA (2 ^ n)) 120)) := by
  have hlt := (Array.getElem?_eq_some_iff.1 HH1.out.1).1
  have h2 : w2.heap[H1]? = some (.cells (nsA (2 ^ n)) 120) := by
   refine (q2.block H1 (Nat.lt_of_lt_of_le hlt hbB.size) (fun e => ?_)).trans ((hbB.block H1 hlt).trans HH1.out.1)
   have h3 := (own_lt (HN.out ▸ HP.out.own : w.ownsRow w0.heap.size 120 7 (.slice va n vc) n (behA l)) e.symm).2.1
   have h4 := HH1.out.2
   have h5 := HBA.out.size
   omega
  show _ = _
  rw [hw3]
  refine ((grown_cell w2 bp 184 _).block H1 (Array.getElem?_eq_some_iff.1 h2).1 (fun e => ?_)).trans h2
  have := Option.some.inj e
  subst this
  rw [HUP.out] at h2
  cases h2
 have HGH : Hid (w3.heap[H]? = some (.cells #[.bool false, .int .u64 0, .int .u64 0, .int .u64 0, .int .u64 0, .int .u64 0, .int .u64 0, .int .u64 0, .int .u64 0, .int .u64 0, .int .u64 0, .int .u64 0, .int .u64 0, .int .u64 0, .int .u64 0] 138)) := by
  have h1 := hown_ne H _ _ _ ((HB1.out.block H (Array.getElem?_eq_some_iff.1 HHA.out).1).trans HHA.out) (by decide)
  show _ = _
  rw [hw3]
  refine ((grown_cell w2 bp 184 _).block H (Array.getElem?_eq_some_iff.1 h1).1 (fun e => ?_)).trans h1
  have := Option.some.inj e
  subst this
  rw [HUP.out] at h1
  cases h1
 clear hw3 q1 q2 hbB hown_ne e1 f1 Q1 HUP
 go_wp2
 go_loopw [26] (fun x26 wr => ∃ k : Nat, ∃ cs' : Array Value, k ≤ m ∧ x26 = .int .i64 k ∧ PutAt w0.heap.size wr bp cs' (.slice (some ⟨g, 0, none⟩) (n + 1) cap) wh l cl k ∧ Below w0.heap.size w0 wr ∧ FrS w wr ∧ wr.heap[H1]? = some (.cells (nsA (2 ^ n)) 120) ∧ wr.heap[H]? = some (.cells #[.bool false, .int .u64 0, .int .u64 0, .int .u64 0, .int .u64 0, .int .u64 0, .int .u64 0, .int .u64 0, .int .u64 0, .int .u64 0, .int .u64 0, .int .u64 0, .int .u64 0, .int .u64 0, .int .u64 0] 138)) (fun x26 _ => m - (intOf x26).toNat)
 case atStart => exact ⟨0, _, by omega, rfl, HPU.out, HB23.out, HF3.out, HGW.out, HGH.out⟩
 case round =>
  obtain ⟨k, cs', hk, hx26, hpu, hb, hf, hgw, hgh⟩ := hrel
  subst hx26
  have HPK : Hid (PutAt w0.heap.size wr bp cs' (.slice (some ⟨g, 0, none⟩) (n + 1) cap) wh l cl k) := hpu
  have HBK : Hid (Below w0.heap.size w0 wr) := hb
  have HFK : Hid (FrS w wr) := hf
  have HWK : Hid (wr.heap[H1]? = some (.cells (nsA (2 ^ n)) 120)) := hgw
  have HHK : Hid (wr.heap[H]? = some (.cells #[.bool false, .int .u64 0, .int .u64 0, .int .u64 0, .int .u64 0, .int .u64 0, .int .u64 0, .int .u64 0, .int .u64 0, .int .u64 0, .int .u64 0, .int .u64 0, .int .u64 0, .int .u64 0, .int .u64 0] 138)) := hgh
  clear hpu hb hf hgw hgh
  by_cases hlt : k < m
  ·have hkl : k < cl.length := by rw [← HM.out]; exact hlt
   obtain ⟨b, off, hca, hcl⟩ := HRD.out.2 (by omega)
   subst hca
   have hcc := upC HBK.out (hcl k hkl)
   have hc24 := HCL.out cl[k] (List.getElem_mem hkl)
   obtain ⟨c, hc⟩ : ∃ c : Nat, cl[k] = Int.ofNat c := ⟨cl[k].toNat, by simp; omega⟩
   have HCK : Hid (cl[k] = Int.ofNat c) := hc
   have hcL : c < 24 := by rw [hc] at hc24; simp at hc24; omega
   have hci : (c : Int) < 24 := by omega
   rw [show cl.getD k 0 = (c : Int) by rw [List.getD_eq_getElem?_getD, List.getElem?_eq_getElem hkl]; exact hc] at hcc
   have HC : Hid (Calls Tryd.prog 83 #[.pointer (some ⟨bp, 16 + c * 7, none⟩), .pointer (some ⟨H1, 0, none⟩)] wr fun e w' => e = .returned (.tuple #[]) ∧ wr.grownBy w' (some bp) ∧ ∃ cs'', w'.heap[bp]? = some (.cells cs'' 142) ∧ JnP cs' cs'' (16 + c * 7) 7 (tkM (Int.ofNat c) l 0 ||| (if Int.ofNat c ∈ cl.take k then 2 ^ l.length else 0)) (2 ^ n)) :=
    join_any _ (2 ^ n) wr bp (16 + c * 7) H1 0 cs' (nsA (2 ^ n)) _ _ _ (fun e => by have h1 := HPK.out.blk; have h2 := HWK.out; rw [e] at h1; rw [h1] at h2; cases h2) HPK.out.blk HWK.out (HPK.out.tk c hcL) (fun i hi => by rw [Nat.zero_add, ← Array.getElem?_toList]; exact nsA_get _ i hi)
   clear hcl hc24 hc
   go_wp2_with fail
   refine HC.out.mono ?_
   rintro e w4 ⟨rfl, hg4, cs4, hb4, hj4⟩
   have HF4 : Hid (PutAt w0.heap.size w4 bp cs4 (.slice (some ⟨g, 0, none⟩) (n + 1) cap) wh l cl (k + 1) ∧ Below w0.heap.size w0 w4 ∧ FrS w w4 ∧ w4.heap[H1]? = some (.cells (nsA (2 ^ n)) 120) ∧ w4.heap[H]? = some (.cells #[.bool false, .int .u64 0, .int .u64 0, .int .u64 0, .int .u64 0, .int .u64 0, .int .u64 0, .int .u64 0, .int .u64 0, .int .u64 0, .int .u64 0, .int .u64 0, .int .u64 0, .int .u64 0, .int .u64 0] 138)) := by
    have hne : ∀ b cs t fr, wr.heap[b]? = some (Obj.cells cs t fr) → t ≠ 142 → w4.heap[b]? = some (Obj.cells cs t fr) := fun b cs t fr hb ht =>
     (hg4.block b (Array.getElem?_eq_some_iff.1 hb).1 (fun e => by
      have := Option.some.inj e
      subst this
      rw [HPK.out.blk] at hb
      cases hb
      exact ht rfl)).trans hb
    rw [HN.out] at hj4
    refine ⟨by rw [HN.out] at HPK ⊢; exact HPK.out.step hkl HCK.out hcL hg4 hb4 hj4, HBK.out.grown hg4 HBK.out.size (fun k e => by cases e; exact HPK.out.low), ⟨Nat.le_trans HFK.out.size hg4.size, fun b cs t fr hb h1 h2 => hne b cs t fr (HFK.out.same b cs t fr hb h1 h2) h2⟩, hne _ _ _ _ HWK.out (by decide), hne _ _ _ _ HHK.out (by decide)⟩
   clear hg4 hb4 hj4 HC hcc
   go_wp2
   go_roundw
   case rel => exact ⟨k + 1, cs4, by omega, by go_num, HF4.out⟩
   case measure => simp [intOf]; omega
  ·have hkm : k = m := by omega
   have HPL : Hid (PlanAt w0.heap.size wr bp cs' (.slice (some ⟨g, 0, none⟩) (n + 1) cap) wh (l ++ [(cl, 0)])) := HPK.out.done (by rw [← HM.out]; omega) (by rw [← HN.out]; exact hnle)
   have g0 : wr.cell? ⟨H1, 0, none⟩ = some (.int .u64 (nw (2 ^ n) 0 : Int)) := cell_of_row wr H1 0 _ _ _ HWK.out
   have g1 : wr.cell? ⟨H1, 1, none⟩ = some (.int .u64 (nw (2 ^ n) 1 : Int)) := cell_of_row wr H1 1 _ _ _ HWK.out
   have g2 : wr.cell? ⟨H1, 2, none⟩ = some (.int .u64 (nw (2 ^ n) 2 : Int)) := cell_of_row wr H1 2 _ _ _ HWK.out
   have g3 : wr.cell? ⟨H1, 3, none⟩ = some (.int .u64 (nw (2 ^ n) 3 : Int)) := cell_of_row wr H1 3 _ _ _ HWK.out
   have g4 : wr.cell? ⟨H1, 4, none⟩ = some (.int .u64 (nw (2 ^ n) 4 : Int)) := cell_of_row wr H1 4 _ _ _ HWK.out
   have g5 : wr.cell? ⟨H1, 5, none⟩ = some (.int .u64 (nw (2 ^ n) 5 : Int)) := cell_of_row wr H1 5 _ _ _ HWK.out
   have g6 : wr.cell? ⟨H1, 6, none⟩ = some (.int .u64 (nw (2 ^ n) 6 : Int)) := cell_of_row wr H1 6 _ _ _ HWK.out
   have d0 : wr.cell? ⟨H, 0, none⟩ = some (.bool false) := cell_of_row wr H 0 _ _ _ HHK.out
   have e0 : wr.frozen? ⟨H, 0, none⟩ = false := Lib.frozen_of_heap HHK.out 0
   have d1 : wr.cell? ⟨H, 1, none⟩ = some (.int .u64 0) := cell_of_row wr H 1 _ _ _ HHK.out
   have e1 : wr.frozen? ⟨H, 1, none⟩ = false := Lib.frozen_of_heap HHK.out 1
   have d2 : wr.cell? ⟨H, 2, none⟩ = some (.int .u64 0) := cell_of_row wr H 2 _ _ _ HHK.out
   have e2 : wr.frozen? ⟨H, 2, none⟩ = false := Lib.frozen_of_heap HHK.out 2
   have d3 : wr.cell? ⟨H, 3, none⟩ = some (.int .u64 0) := cell_of_row wr H 3 _ _ _ HHK.out
   have e3 : wr.frozen? ⟨H, 3, none⟩ = false := Lib.frozen_of_heap HHK.out 3
   have d4 : wr.cell? ⟨H, 4, none⟩ = some (.int .u64 0) := cell_of_row wr H 4 _ _ _ HHK.out
   have e4 : wr.frozen? ⟨H, 4, none⟩ = false := Lib.frozen_of_heap HHK.out 4
   have d5 : wr.cell? ⟨H, 5, none⟩ = some (.int .u64 0) := cell_of_row wr H 5 _ _ _ HHK.out
   have e5 : wr.frozen? ⟨H, 5, none⟩ = false := Lib.frozen_of_heap HHK.out 5
   have d6 : wr.cell? ⟨H, 6, none⟩ = some (.int .u64 0) := cell_of_row wr H 6 _ _ _ HHK.out
   have e6 : wr.frozen? ⟨H, 6, none⟩ = false := Lib.frozen_of_heap HHK.out 6
   have d7 : wr.cell? ⟨H, 7, none⟩ = some (.int .u64 0) := cell_of_row wr H 7 _ _ _ HHK.out
   have e7 : wr.frozen? ⟨H, 7, none⟩ = false := Lib.frozen_of_heap HHK.out 7
   have d8 : wr.cell? ⟨H, 8, none⟩ = some (.int .u64 0) := cell_of_row wr H 8 _ _ _ HHK.out
   have e8 : wr.frozen? ⟨H, 8, none⟩ = false := Lib.frozen_of_heap HHK.out 8
   have d9 : wr.cell? ⟨H, 9, none⟩ = some (.int .u64 0) := cell_of_row wr H 9 _ _ _ HHK.out
   have e9 : wr.frozen? ⟨H, 9, none⟩ = false := Lib.frozen_of_heap HHK.out 9
   have d10 : wr.cell? ⟨H, 10, none⟩ = some (.int .u64 0) := cell_of_row wr H 10 _ _ _ HHK.out
   have e10 : wr.frozen? ⟨H, 10, none⟩ = false := Lib.frozen_of_heap HHK.out 10
   have d11 : wr.cell? ⟨H, 11, none⟩ = some (.int .u64 0) := cell_of_row wr H 11 _ _ _ HHK.out
   have e11 : wr.frozen? ⟨H, 11, none⟩ = false := Lib.frozen_of_heap HHK.out 11
   have d12 : wr.cell? ⟨H, 12, none⟩ = some (.int .u64 0) := cell_of_row wr H 12 _ _ _ HHK.out
   have e12 : wr.frozen? ⟨H, 12, none⟩ = false := Lib.frozen_of_heap HHK.out 12
   have d13 : wr.cell? ⟨H, 13, none⟩ = some (.int .u64 0) := cell_of_row wr H 13 _ _ _ HHK.out
   have e13 : wr.frozen? ⟨H, 13, none⟩ = false := Lib.frozen_of_heap HHK.out 13
   have d14 : wr.cell? ⟨H, 14, none⟩ = some (.int .u64 0) := cell_of_row wr H 14 _ _ _ HHK.out
   have e14 : wr.frozen? ⟨H, 14, none⟩ = false := Lib.frozen_of_heap HHK.out 14
   have HFIN : Hid (∀ v0 v1 v2 v3 v4 v5 v6 v7 v8 v9 v10 v11 v12 v13 v14, (∃ c'' v'', PlanAt w0.heap.size ((((((((((((((((wr).setCell ⟨H, 0, none⟩ v0).setCell ⟨H, 1, none⟩ v1).setCell ⟨H, 2, none⟩ v2).setCell ⟨H, 3, none⟩ v3).setCell ⟨H, 4, none⟩ v4).setCell ⟨H, 5, none⟩ v5).setCell ⟨H, 6, none⟩ v6).setCell ⟨H, 7, none⟩ v7).setCell ⟨H, 8, none⟩ v8).setCell ⟨H, 9, none⟩ v9).setCell ⟨H, 10, none⟩ v10).setCell ⟨H, 11, none⟩ v11).setCell ⟨H, 12, none⟩ v12).setCell ⟨H, 13, none⟩ v13).setCell ⟨H, 14, none⟩ v14) bp c'' v'' wh (l ++ [(cl, 0)])) ∧ Below w0.heap.size w0 ((((((((((((((((wr).setCell ⟨H, 0, none⟩ v0).setCell ⟨H, 1, none⟩ v1).setCell ⟨H, 2, none⟩ v2).setCell ⟨H, 3, none⟩ v3).setCell ⟨H, 4, none⟩ v4).setCell ⟨H, 5, none⟩ v5).setCell ⟨H, 6, none⟩ v6).setCell ⟨H, 7, none⟩ v7).setCell ⟨H, 8, none⟩ v8).setCell ⟨H, 9, none⟩ v9).setCell ⟨H, 10, none⟩ v10).setCell ⟨H, 11, none⟩ v11).setCell ⟨H, 12, none⟩ v12).setCell ⟨H, 13, none⟩ v13).setCell ⟨H, 14, none⟩ v14) ∧ FrS w ((((((((((((((((wr).setCell ⟨H, 0, none⟩ v0).setCell ⟨H, 1, none⟩ v1).setCell ⟨H, 2, none⟩ v2).setCell ⟨H, 3, none⟩ v3).setCell ⟨H, 4, none⟩ v4).setCell ⟨H, 5, none⟩ v5).setCell ⟨H, 6, none⟩ v6).setCell ⟨H, 7, none⟩ v7).setCell ⟨H, 8, none⟩ v8).setCell ⟨H, 9, none⟩ v9).setCell ⟨H, 10, none⟩ v10).setCell ⟨H, 11, none⟩ v11).setCell ⟨H, 12, none⟩ v12).setCell ⟨H, 13, none⟩ v13).setCell ⟨H, 14, none⟩ v14)) := fun v0 v1 v2 v3 v4 v5 v6 v7 v8 v9 v10 v11 v12 v13 v14 => by
    have hg : wr.grownBy ((((((((((((((((wr).setCell ⟨H, 0, none⟩ v0).setCell ⟨H, 1, none⟩ v1).setCell ⟨H, 2, none⟩ v2).setCell ⟨H, 3, none⟩ v3).setCell ⟨H, 4, none⟩ v4).setCell ⟨H, 5, none⟩ v5).setCell ⟨H, 6, none⟩ v6).setCell ⟨H, 7, none⟩ v7).setCell ⟨H, 8, none⟩ v8).setCell ⟨H, 9, none⟩ v9).setCell ⟨H, 10, none⟩ v10).setCell ⟨H, 11, none⟩ v11).setCell ⟨H, 12, none⟩ v12).setCell ⟨H, 13, none⟩ v13).setCell ⟨H, 14, none⟩ v14) (some H) := grown_put (i := 14) v14 (grown_put (i := 13) v13 (grown_put (i := 12) v12 (grown_put (i := 11) v11 (grown_put (i := 10) v10 (grown_put (i := 9) v9 (grown_put (i := 8) v8 (grown_put (i := 7) v7 (grown_put (i := 6) v6 (grown_put (i := 5) v5 (grown_put (i := 4) v4 (grown_put (i := 3) v3 (grown_put (i := 2) v2 (grown_put (i := 1) v1 (grown_put (i := 0) v0 (grown_refl wr (some H))))))))))))))))
    have hHw : w.heap.size ≤ H := HHW.out
    exact ⟨⟨_, _, HPL.out.kept hg HHK.out (by decide) (by decide)⟩, HBK.out.grown hg HBK.out.size (fun k e => by cases e; exact Nat.le_trans HB0.out.size hHw), HFK.out.new hg hHw⟩
   clear HPL HPK
   go_wp2_with fail
   refine bodyPost_ret (v := .agg (spnA ⟨false, 2 ^ n, 2 ^ n⟩)) ?_ rfl ⟨rfl, HFIN.out _ _ _ _ _ _ _ _ _ _ _ _ _ _ _⟩
   rw [results_cell_one rfl]
   go_simp
   rfl
end Go.Proofs.YtclogekfdmikpaaDoor

/- What row and fork keep of the parts that they went by; the walk of row. -/
namespace Go.Proofs.YtclogekfdmikpaaDoor
open Go.RowKit Go.Shelf
set_option linter.unusedVariables false
set_option linter.unusedSimpArgs false

def spL (t : Bool) : List Nd → Sp → Pl → Sp × Pl
 | [], s, l => (s, l)
 | x :: r, s, l => spL t r (stepQ t s (x.span l)).1 (stepQ t s (x.span l)).2
theorem spF_L (t : Bool) : (f : Fo) → (s : Sp) → (l : Pl) → spF f t s l = spL t (toL f) s l
 | .nil, s, l => rfl
 | .node _ _ a k r, s, l => by
   simp only [spF, toL, spL]
   rw [spF_L t r]
   rfl
theorem spL_snoc (t : Bool) (y : Nd) : (xs : List Nd) → (s : Sp) → (l : Pl) → spL t (xs ++ [y]) s l = stepQ t (spL t xs s l).1 (y.span (spL t xs s l).2)
 | [], s, l => rfl
 | x :: r, s, l => by
   simp only [List.cons_append, spL]
   rw [spL_snoc t y r]
theorem spL_ok (t : Bool) (xs : List Nd) (h : ∀ x, x ∈ xs → x.right) (b : Bool) (l : Pl) : InSp l.length (spL t xs ⟨b, 0, 0⟩ l).1 (spL t xs ⟨b, 0, 0⟩ l).2 ∧ l.length ≤ (spL t xs ⟨b, 0, 0⟩ l).2.length ∧ (spL t xs ⟨b, 0, 0⟩ l).2.length ≤ l.length + cntL xs := by
 have h1 := spF_ok (ofL xs) (rightF_ofL xs h) t l.length ⟨b, 0, 0⟩ l (Nat.le_refl _) (insp_none b l)
 have h2 := spF_len (ofL xs) t ⟨b, 0, 0⟩ l
 rw [spF_L, toL_ofL] at h1
 rw [spF_L, toL_ofL, cntF_sum, toL_ofL] at h2
 exact ⟨h1.isin, h2⟩
theorem jn_fi {s : Sp} {cs' : Array Value} {T : Nat} (h : JnP (spnA s) cs' 1 7 s.fi T) : cs' = spnA ⟨s.em, s.fi ||| T, s.en⟩ := by
 apply Array.ext_getElem?
 intro i
 by_cases hi : i < 15
 ·match i, hi with
  | 0, _ => exact h.rest 0 (by omega)
  | 1, _ => exact h.done 0 (by omega)
  | 2, _ => exact h.done 1 (by omega)
  | 3, _ => exact h.done 2 (by omega)
  | 4, _ => exact h.done 3 (by omega)
  | 5, _ => exact h.done 4 (by omega)
  | 6, _ => exact h.done 5 (by omega)
  | 7, _ => exact h.done 6 (by omega)
  | 8, _ => exact h.rest 8 (by omega)
  | 9, _ => exact h.rest 9 (by omega)
  | 10, _ => exact h.rest 10 (by omega)
  | 11, _ => exact h.rest 11 (by omega)
  | 12, _ => exact h.rest 12 (by omega)
  | 13, _ => exact h.rest 13 (by omega)
  | 14, _ => exact h.rest 14 (by omega)
 ·rw [Array.getElem?_eq_none (by rw [h.size]; show 15 ≤ i; omega), Array.getElem?_eq_none (by show 15 ≤ i; omega)]
theorem jn_en {s : Sp} {cs' : Array Value} {T : Nat} (h : JnP (spnA s) cs' 8 7 s.en T) : cs' = spnA ⟨s.em, s.fi, s.en ||| T⟩ := by
 apply Array.ext_getElem?
 intro i
 by_cases hi : i < 15
 ·match i, hi with
  | 0, _ => exact h.rest 0 (by omega)
  | 1, _ => exact h.rest 1 (by omega)
  | 2, _ => exact h.rest 2 (by omega)
  | 3, _ => exact h.rest 3 (by omega)
  | 4, _ => exact h.rest 4 (by omega)
  | 5, _ => exact h.rest 5 (by omega)
  | 6, _ => exact h.rest 6 (by omega)
  | 7, _ => exact h.rest 7 (by omega)
  | 8, _ => exact h.done 0 (by omega)
  | 9, _ => exact h.done 1 (by omega)
  | 10, _ => exact h.done 2 (by omega)
  | 11, _ => exact h.done 3 (by omega)
  | 12, _ => exact h.done 4 (by omega)
  | 13, _ => exact h.done 5 (by omega)
  | 14, _ => exact h.done 6 (by omega)
 ·rw [Array.getElem?_eq_none (by rw [h.size]; show 15 ≤ i; omega), Array.getElem?_eq_none (by show 15 ≤ i; omega)]

def sp0 : Array Value := #[.bool false, .int .u64 0, .int .u64 0, .int .u64 0, .int .u64 0, .int .u64 0, .int .u64 0, .int .u64 0, .int .u64 0, .int .u64 0, .int .u64 0, .int .u64 0, .int .u64 0, .int .u64 0, .int .u64 0]
structure RwAt (w0 w wr : World) (H bp : Nat) (wh : Bool) (s : Sp) (l : Pl) : Prop where
 plan : ∃ cs v, PlanAt w0.heap.size wr bp cs v wh l
 bel : Below w0.heap.size w0 wr
 frs : FrS w wr
 res : wr.heap[H]? = some (.cells sp0 138)
 row : wr.heap[H + 1]? = some (.cells (spnA s) 138)
theorem RwAt.down {w0 w a b : World} {H bp : Nat} {wh : Bool} {s : Sp} {l l' : Pl} (h : RwAt w0 w a H bp wh s l) (hp : ∃ cs v, PlanAt w0.heap.size b bp cs v wh l') (hb : Below w0.heap.size w0 b) (hf : FrS a b) : RwAt w0 w b H bp wh s l' :=
 ⟨hp, hb, h.frs.trans hf, hf.same _ _ _ _ h.res (by decide) (by decide), hf.same _ _ _ _ h.row (by decide) (by decide)⟩
theorem RwAt.later {w0 w a b : World} {H bp : Nat} {wh : Bool} {s : Sp} {l : Pl} (h : RwAt w0 w a H bp wh s l) (hb : Below a.heap.size a b) : RwAt w0 w b H bp wh s l := by
 obtain ⟨cs, v, hp⟩ := h.plan
 exact h.down ⟨cs, v, hp.later hb⟩ (h.bel.trans (hb.mono h.bel.size)) (FrS.below hb)
theorem RwAt.set {w0 w a b : World} {H bp : Nat} {wh : Bool} {s s' : Sp} {l : Pl} (h : RwAt w0 w a H bp wh s l) (hH : w.heap.size ≤ H) (h0 : w0.heap.size ≤ H) (hg : a.grownBy b (some (H + 1))) (hr : b.heap[H + 1]? = some (.cells (spnA s') 138)) : RwAt w0 w b H bp wh s' l := by
 obtain ⟨cs, v, hp⟩ := h.plan
 refine ⟨⟨cs, v, hp.kept hg h.row (by decide) (by decide)⟩, h.bel.grown hg h.bel.size (fun k e => by cases e; omega), h.frs.new hg (by omega), (hg.block H (Array.getElem?_eq_some_iff.1 h.res).1 (fun e => ?_)).trans h.res, hr⟩
 have := Option.some.inj e
 omega
def SpC (D : Nat) : Prop := ∀ (n : Nd) (dd : Nat) (ca pa : Option Addr) (cc pc : Nat) (w0 w : World) (bp : Nat) (cs : Array Value) (v : Value) (wh : Bool) (l : Pl), okN dd n = true → InV w0.heap.size w0 D n [.int .i64 n.op, .slice ca n.cl.length cc, .slice pa (toL n.kids).length pc] → Below w0.heap.size w0 w → TabD w0 → PlanAt w0.heap.size w bp cs v wh l → l.length + n.cnt ≤ 400 →
 Calls Tryd.prog 77 #[.pointer (some ⟨bp, 0, none⟩), .agg #[.int .i64 n.op, .slice ca n.cl.length cc, .slice pa (toL n.kids).length pc]] w fun e w' => e = .returned (.agg (spnA (n.span l).1)) ∧ (∃ cs' v', PlanAt w0.heap.size w' bp cs' v' wh (n.span l).2) ∧ Below w0.heap.size w0 w' ∧ FrS w w'
end Go.Proofs.YtclogekfdmikpaaDoor
