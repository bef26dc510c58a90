/- In one text: DfaSc, DfaKa, DfaKb. -/
import Derived.Test.YtclogekfdmikpaaDoorJ21
/- The walk of situations. -/
namespace Go.Proofs.YtclogekfdmikpaaDoor
open Go.RowKit Go.Shelf Go.Maps
set_option linter.unusedVariables false
set_option linter.unusedSimpArgs false

def stO (x : Nd × Bool) : Nat × Bool → Nat → Nat × Bool := fun y c => stepS x.2 (x.1.span []).1 (x.1.span []).2 y (Int.ofNat c)
def fiO (x : Nd × Bool) : Nat × Bool := begS (x.1.span []).1
def SpotsA (K : Nat) (xs : List (Nd × Bool)) (Ms : List (List (Nat × Bool))) (nxs : List (List (List Nat))) : Prop :=
 ∀ (i : Nat) x m N, xs[i]? = some x → Ms[i]? = some m → nxs[i]? = some N → SpotsP K x m N ∧ m.length ≤ 2000 ∧ ∀ y, y ∈ m → Rch K (stO x) (fiO x) y
def SitF (K : Nat) (xs : List (Nd × Bool)) : Prop := (∃ x, x ∈ xs ∧ TooMany K (stO x) (fiO x)) ∨ ∃ Ms nxs, Ms.length = xs.length ∧ nxs.length = xs.length ∧ SpotsA K xs Ms nxs ∧ TooMany K (stepAll nxs) (List.replicate xs.length 0)
def uv (l : List Nat) : List Value := l.map (fun (c : Nat) => Value.int .u64 (c : Int))
def URow (w : World) (b : Nat) (l : List Nat) : Prop := w.heap[b]? = some (.cells (uv l).toArray 64)
theorem URow.cell {w : World} {b : Nat} {l : List Nat} (h : URow w b l) {i : Nat} (hi : i < l.length) : w.cell? ⟨b, i, none⟩ = some (.int .u64 (l[i] : Int)) := by
 rw [cell_of_row w b i _ _ _ h]
 simp [uv, hi]
theorem URow.frozen {w : World} {b : Nat} {l : List Nat} (h : URow w b l) (i : Nat) : w.frozen? ⟨b, i, none⟩ = false := Lib.frozen_of_heap h i
theorem URow.set {w : World} {b : Nat} {l : List Nat} (h : URow w b l) (i x : Nat) : URow (w.setCell ⟨b, i, none⟩ (.int .u64 (x : Int))) b (l.set i x) := by
 unfold URow
 rw [heap_setCell_same w b i _ _ _ h]
 simp [uv, List.map_set]
theorem URow.later {w w' : World} {b : Nat} {l : List Nat} (h : URow w b l) (hb : Below w.heap.size w w') : URow w' b l := (hb.block b (Array.getElem?_eq_some_iff.1 h).1).trans h
theorem URow.rd {w : World} {b : Nat} {l : List Nat} (h : URow w b l) : Rd .u64 w (some ⟨b, 0, none⟩) l.length (intsN l) := by
 refine ⟨by simp [intsN], fun _ => ⟨b, 0, rfl, fun i hi => ?_⟩⟩
 rw [Nat.zero_add, cell_of_row w b i _ _ _ h]
 simp [uv, intsN, List.getD_eq_getElem?_getD, hi]
theorem bitsN_snoc : (l : List Bool) → (i : Nat) → (b : Bool) → bitsN i (l ++ [b]) = bitsN i l ||| (if b = true then 2 ^ (i + l.length) else 0)
 | [], i, b => by simp [bitsN]
 | x :: l, i, b => by
   simp only [List.cons_append, bitsN, bitsN_snoc l (i + 1) b, Nat.or_assoc, List.length_cons]
   rw [show i + 1 + l.length = i + (l.length + 1) by omega]
theorem bitsN_lt (l : List Bool) (h : l.length ≤ 64) : bitsN 0 l < 2 ^ 64 := by
 apply Nat.lt_pow_two_of_testBit
 intro p hp
 rw [Bool.eq_false_iff]
 intro hb
 obtain ⟨j, h1, h2⟩ := (bitsN_bit l 0 p).1 hb
 have := (List.getElem?_eq_some_iff.1 h2).1
 omega
theorem rch_all {K : Nat} {xs : List (Nd × Bool)} {Ms : List (List (Nat × Bool))} {nxs : List (List (List Nat))} (hl1 : Ms.length = xs.length) (hl2 : nxs.length = xs.length) (hs : SpotsA K xs Ms nxs) : ∀ x, Rch K (stepAll nxs) (List.replicate xs.length 0) x → InAll K nxs x := by
 rintro x ⟨w, hw, rfl⟩
 have hsp : ∀ i (h : i < nxs.length), ∃ M, Ms[i]? = some M ∧ ∃ X, xs[i]? = some X ∧ SpotsP K X M nxs[i] := fun i h => by
  have h1 : Ms[i]? = some (Ms[i]'(by omega)) := List.getElem?_eq_getElem _
  have h2 : xs[i]? = some (xs[i]'(by omega)) := List.getElem?_eq_getElem _
  exact ⟨_, h1, _, h2, (hs i _ _ _ h2 h1 (List.getElem?_eq_getElem h)).1⟩
 have hstep : ∀ (w : List Nat) (x : List Nat), (∀ c, c ∈ w → c < K) → InAll K nxs x → InAll K nxs (w.foldl (stepAll nxs) x) := by
  intro w
  induction w with
  | nil => exact fun x _ hx => hx
  | cons c w ih =>
    intro x hc hx
    refine ih _ (fun d hd => hc d (List.mem_cons_of_mem _ hd)) ⟨by rw [stepAll_len nxs x c hx.1]; exact hx.1, fun i h1 h2 => ?_⟩
    have h3 : i < x.length := by rw [hx.1]; exact h2
    rw [stepAll_get nxs x c i h3 h2 h1]
    obtain ⟨M, _, X, _, hp⟩ := hsp i h2
    have h4 := hx.2 i h3 h2
    have h5 : M[x[i]]? = some (M[x[i]]'(by rw [← hp.all]; exact h4)) := List.getElem?_eq_getElem _
    have h6 := hp.meet.go x[i] _ h4 h5 c (hc c List.mem_cons_self)
    have := (List.getElem?_eq_some_iff.1 h6).1
    rw [← hp.all] at this
    exact this
 refine hstep w _ hw ⟨by simp [hl2], fun i h1 h2 => ?_⟩
 obtain ⟨M, _, X, _, hp⟩ := hsp i h2
 have := (List.getElem?_eq_some_iff.1 hp.meet.one).1
 rw [← hp.all] at this
 simpa using this
theorem made_u (n : Nat) : (madeCells (Value.int .u64 0).cells (n * 1)) = (uv (List.replicate n 0)).toArray := by
 apply Array.ext'
 rw [Nat.mul_one]
 refine (made_one (.int .u64 0) n).trans ?_
 simp [uv]
theorem info_u64 : (Tryd.prog.info? 64).map (fun i => (i.zero, i.size, i.bytes)) = some (some (.int .u64 0), 1, 8) := by kernel_rfl
theorem make_u (n : Nat) (hn : n ≤ 1000000) (W : World) : (Instr.makeSlice 98 (.int .i64 (n : Int)) (.int .i64 (n : Int))).run Tryd.prog W = .ok (.slice (some ⟨W.heap.size, 0, none⟩) n n) (W.alloc (.cells (uv (List.replicate n 0)).toArray 64)) := by
 obtain ⟨i0, hi, hz0, hz1, hz2⟩ := info_parts info_u64
 have := run_make (P := Tryd.prog) W 98 64 i0 _ Tryd.underlying98 hi hz0 .i64 .i64 (n : Int) (n : Int) (by omega) (by omega) (by rw [hz2]; omega) (by omega)
 rw [show ((n : Int)).toNat = n by omega, hz1, made_u] at this
 exact this
theorem SitA.sitN {w : World} {K n SB NB CB : Nat} {sv nv : List Value} {Ms : List (List (Nat × Bool))} {nxs : List (List (List Nat))} (h : SitA w K n SB NB CB sv nv Ms nxs) (hn : Ms.length = n) : SitN w K CB nxs := by
 have hx : nxs.length = n := by rw [h.lx]; exact hn
 refine ⟨NB, by rw [hx]; exact h.cb, fun i hi => ?_⟩
 have hiv : i < nv.length := by rw [h.ln]; omega
 refine ⟨nv[i], ?_, h.nx i _ _ (List.getElem?_eq_getElem hiv) (List.getElem?_eq_getElem hi)⟩
 rw [cell_of_row w NB i _ _ _ h.nb, List.getElem?_toArray, List.getElem?_append_left hiv, List.getElem?_eq_getElem hiv]
def SitP (K : Nat) (xs : List (Nd × Bool)) (w : World) (e : Ending) (w' : World) : Prop :=
 Below w.heap.size w w' ∧ ((∃ bm ob v9 Ms nxs met nx ou, e = .returned (.tuple #[.pointer (some ⟨bm, 0, none⟩), .bool true]) ∧ w'.heap[bm]? = some (.cells #[.int .i64 (K : Int), v9, .slice (some ⟨ob, 0, none⟩) met.length met.length] 100) ∧ NxW w' K v9 nx ∧ URow w' ob ou ∧ Ms.length = xs.length ∧ nxs.length = xs.length ∧ SpotsA K xs Ms nxs ∧ MeetP K (stepAll nxs) (List.replicate xs.length 0) met nx ∧ nx.length = met.length ∧ met.length ≤ 2000 ∧ ou = met.map (fun l => bitsN 0 (List.zipWith (fun m s => (m.getD s (0, false)).2) Ms l))) ∨
  (e = .returned (.tuple #[.pointer none, .bool false]) ∧ SitF K xs))
theorem three_0 (w : World) (a b c : Obj) : (((w.alloc a).alloc b).alloc c).heap[w.heap.size]? = some a :=
 ((((Below.refl _ (w.alloc a)).alloc (Nat.le_refl _) b).alloc (by simp) c).block w.heap.size (by simp)).trans (heap_alloc_new w a)
theorem three_1 (w : World) (a b c : Obj) : (((w.alloc a).alloc b).alloc c).heap[w.heap.size + 1]? = some b := by
 have := heap_alloc_new (w.alloc a) b
 rw [show (w.alloc a).heap.size = w.heap.size + 1 by simp] at this
 exact (((Below.refl _ ((w.alloc a).alloc b)).alloc (Nat.le_refl _) c).block (w.heap.size + 1) (by simp)).trans this
theorem three_2 (w : World) (a b c : Obj) : (((w.alloc a).alloc b).alloc c).heap[w.heap.size + 1 + 1]? = some c := by
 have := heap_alloc_new ((w.alloc a).alloc b) c
 rw [show ((w.alloc a).alloc b).heap.size = w.heap.size + 1 + 1 by simp] at this
 exact this
set_option maxRecDepth 100000 in
set_option maxHeartbeats 16000000 in
theorem sit_any (D : Nat) (K : Nat) (xs : List (Nd × Bool)) (a : Option Addr) (cp : Nat) (w : World) (hT : TabD w) (hx : XRow w.heap.size w D a xs) (hK1 : 1 ≤ K) (hK : K ≤ 24) (hl : xs.length ≤ 64) (hok : ∀ x, x ∈ xs → x.1.ok = true) :
 Calls Tryd.prog 43 #[.int .i64 (K : Int), .slice a xs.length cp] w (SitP K xs w) := by
 obtain ⟨n, hn⟩ : ∃ n, n = xs.length := ⟨_, rfl⟩
 have HN : Hid (n = xs.length) := hn
 have HXR : Hid (XRow w.heap.size w D a xs) := hx
 have HTD : Hid (TabD w) := hT
 have HOK : Hid (∀ x, x ∈ xs → x.1.ok = true) := hok
 have hni : (n : Int) ≤ 64 := by omega
 have hKi : (K : Int) ≤ 24 := by omega
 have hmf : ∀ (fn : Fn) (first cap : Array Value) (w : World), (Instr.makeFunc fn first cap).run Tryd.prog w = .ok (.func fn first cap) w := fun _ _ _ _ => rfl
 have hm1 := make_sp n (by omega)
 have hm2 := make_rw n (by omega)
 obtain ⟨SB, hSB⟩ : ∃ SB, SB = w.heap.size := ⟨_, rfl⟩
 obtain ⟨NB, hNB⟩ : ∃ NB, NB = w.heap.size + 1 := ⟨_, rfl⟩
 obtain ⟨CB, hCB⟩ : ∃ CB, CB = w.heap.size + 1 + 1 := ⟨_, rfl⟩
 obtain ⟨wA, hwA⟩ : ∃ wA, wA = ((w.alloc (.cells (List.replicate n nilV).toArray 116)).alloc (.cells (List.replicate n nilV).toArray 97)).alloc (.cells #[.slice (some ⟨NB, 0, none⟩) n n] 113) := ⟨_, rfl⟩
 have HSW : Hid (w.heap.size ≤ SB ∧ w.heap.size ≤ NB ∧ w.heap.size ≤ CB) := ⟨by omega, by omega, by omega⟩
 have HBA : Hid (Below w.heap.size w wA) := by rw [hwA]; exact (((Below.refl _ w).alloc (Nat.le_refl _) _).alloc (by simp) _).alloc (by simp; omega) _
 have HSA : Hid (SitA wA K n SB NB CB [] [] [] []) := by
  refine ⟨?_, ?_, ?_, rfl, rfl, rfl, by simp, fun i v M h => by simp at h, fun i v N h => by simp at h⟩
  ·rw [hwA, hSB]; simp only [List.nil_append, List.length_nil, Nat.sub_zero]; exact three_0 w _ _ _
  ·rw [hwA, hNB]; simp only [List.nil_append, List.length_nil, Nat.sub_zero]; exact three_1 w _ _ _
  ·rw [hwA, hCB]; exact three_2 w _ _ _
 obtain ⟨ZR, hZR⟩ : ∃ ZR, ZR = (List.replicate n nilV).toArray := ⟨_, rfl⟩
 rw [← hZR] at hm1 hm2 hwA
 rw [← hn]
 clear hT hx hok hl hn hZR
 go_enter Tryd.func43, Tryd.ntmps43
 go_upto_region 3 with fail
 rw [← hCB, ← hNB, ← hSB, ← hwA]
 clear hCB hNB hSB hwA hm1 hm2
 go_wp2
 go_loopw [29] (fun x29 wr => ∃ (k : Nat) (sv nv : List Value) (Ms : List (List (Nat × Bool))) (nxs : List (List (List Nat))), k ≤ n ∧ x29 = .int .i64 (k : Int) ∧ Ms.length = k ∧ SitA wr K n SB NB CB sv nv Ms nxs ∧ SpotsA K (xs.take k) Ms nxs ∧ Below w.heap.size w wr) (fun x29 _ => n - (intOf x29).toNat)
 case atStart => exact ⟨0, [], [], [], [], by omega, rfl, rfl, HSA.out, fun i x m N h => by simp at h, HBA.out⟩
 case round =>
  obtain ⟨k, sv, nv, Ms, nxs, hk, hx29, hmk, hsa, hspa, hbw⟩ := hrel
  subst hx29
  have HMK : Hid (Ms.length = k) := hmk
  have HSA1 : Hid (SitA wr K n SB NB CB sv nv Ms nxs) := hsa
  have HSP : Hid (SpotsA K (xs.take k) Ms nxs) := hspa
  have HBW : Hid (Below w.heap.size w wr) := hbw
  clear hmk hsa hspa hbw
  by_cases hlt : k < n
  ·have hkn : k < xs.length := by rw [← HN.out]; exact hlt
   obtain ⟨b, off, hpa, hks⟩ := HXR.out (by omega)
   obtain ⟨us, hin, hcs, hcb⟩ := hks k hkn
   subst hpa
   obtain ⟨xa, xc, ya, yc, rfl⟩ := hin.three
   have c0 := upC HBW.out (hcs 0 _ rfl)
   have c1 := upC HBW.out (hcs 1 _ rfl)
   have c2 := upC HBW.out (hcs 2 _ rfl)
   have c3 := upC HBW.out hcb
   rw [Nat.add_zero] at c0
   obtain ⟨X, hX⟩ : ∃ X, X = xs[k] := ⟨_, rfl⟩
   have HXK : Hid (xs[k]? = some X) := by show _ = _; rw [hX]; exact List.getElem?_eq_getElem hkn
   have HOX : Hid (X.1.ok = true) := by rw [hX]; exact HOK.out _ (List.getElem_mem hkn)
   rw [← hX] at hin c0 c1 c2 c3
   obtain ⟨xo, hxo⟩ : ∃ xo, xo = X.1.op := ⟨_, rfl⟩
   obtain ⟨xn, hxn⟩ : ∃ xn, xn = X.1.cl.length := ⟨_, rfl⟩
   obtain ⟨xk, hxk⟩ : ∃ xk, xk = (toL X.1.kids).length := ⟨_, rfl⟩
   obtain ⟨xw, hxw⟩ : ∃ xw, xw = X.2 := ⟨_, rfl⟩
   have HXW : Hid (xw = X.2) := hxw
   obtain ⟨W1, hW1⟩ : ∃ W1, W1 = wr.alloc (.cells #[.int .i64 xo, .slice xa xn xc, .slice ya xk yc, .bool xw] 61) := ⟨_, rfl⟩
   obtain ⟨H, hH⟩ : ∃ H, H = wr.heap.size := ⟨_, rfl⟩
   have HBW1 : Hid (Below wr.heap.size wr W1) := by rw [hW1]; exact (Below.refl _ wr).alloc (Nat.le_refl _) _
   have HBX : Hid (W1.heap[H]? = some (.cells #[.int .i64 xo, .slice xa xn xc, .slice ya xk yc, .bool xw] 61)) := by show _ = _; rw [hW1, hH]; exact heap_alloc_new wr _
   have HB1 : Hid (Below w.heap.size w W1) := HBW.out.trans (HBW1.out.mono HBW.out.size)
   have HPO : Hid (Calls Tryd.prog 62 #[.agg #[.int .i64 xo, .slice xa xn xc, .slice ya xk yc, .bool xw]] W1 fun e w' => ∃ bp, e = .returned (.pointer (some ⟨bp, 0, none⟩)) ∧ W1.heap.size ≤ bp ∧ PlanR w' bp (X.1.span []).1 xw (X.1.span []).2 ∧ Below W1.heap.size W1 w') := by
    rw [hxo, hxn, hxk, hxw]
    exact planOf_any D X.1 X.2 xa ya xc yc W1 HOX.out ((hin.later HB1.out D).base HB1.out.size D) (HTD.out.later HB1.out)
   rw [← hxo] at c0
   rw [← hxn] at c1
   rw [← hxk] at c2
   rw [← hxw] at c3
   have e0 : W1.cell? ⟨H, 0, none⟩ = some (.int .i64 xo) := cell_of_row W1 H 0 _ _ _ HBX.out
   have e1 : W1.cell? ⟨H, 1, none⟩ = some (.slice xa xn xc) := cell_of_row W1 H 1 _ _ _ HBX.out
   have e2 : W1.cell? ⟨H, 2, none⟩ = some (.slice ya xk yc) := cell_of_row W1 H 2 _ _ _ HBX.out
   have e3 : W1.cell? ⟨H, 3, none⟩ = some (.bool xw) := cell_of_row W1 H 3 _ _ _ HBX.out
   clear hks hcs hcb hin hX hxo hxn hxk hxw
   go_upto_region 6 with fail
   rw [← hH, ← hW1]
   clear hH hW1 c0 c1 c2 c3
   go_wp2_with fail
   refine HPO.out.mono ?_
   rintro e w2 ⟨bp, rfl, hbp, hpr, hb2⟩
   have HPR : Hid (PlanR w2 bp (X.1.span []).1 xw (X.1.span []).2) := hpr
   have HB2 : Hid (Below wr.heap.size wr w2) := HBW1.out.trans (hb2.mono HBW1.out.size)
   have HBW2 : Hid (Below w.heap.size w w2) := HBW.out.trans (HB2.out.mono HBW.out.size)
   have HSA2 : Hid (SitA w2 K n SB NB CB sv nv Ms nxs) := HSA1.out.later HB2.out
   clear hbp hpr hb2 HPO e0 e1 e2 e3
   have HBG : Hid (∀ W : World, Below w2.heap.size w2 W → Calls Tryd.prog 64 #[.pointer (some ⟨bp, 0, none⟩)] W fun e w' => e = .returned (.agg #[.int .u64 (nw (X.1.span []).1.fi 0 : Int), .int .u64 (nw (X.1.span []).1.fi 1 : Int), .int .u64 (nw (X.1.span []).1.fi 2 : Int), .int .u64 (nw (X.1.span []).1.fi 3 : Int), .int .u64 (nw (X.1.span []).1.fi 4 : Int), .int .u64 (nw (X.1.span []).1.fi 5 : Int), .int .u64 (nw (X.1.span []).1.fi 6 : Int), .bool (X.1.span []).1.em]) ∧ Below W.heap.size W w') := fun W hW => by
    obtain ⟨n0, cs, v, h1, h2⟩ := (HPR.out.later hW).at_
    exact begin_any W bp cs _ _ _ h1.blk h2
   have HME : Hid (∀ W : World, Below w2.heap.size w2 W → Calls Tryd.prog 63 #[.int .i64 (K : Int), .agg #[.int .u64 (nw (X.1.span []).1.fi 0 : Int), .int .u64 (nw (X.1.span []).1.fi 1 : Int), .int .u64 (nw (X.1.span []).1.fi 2 : Int), .int .u64 (nw (X.1.span []).1.fi 3 : Int), .int .u64 (nw (X.1.span []).1.fi 4 : Int), .int .u64 (nw (X.1.span []).1.fi 5 : Int), .int .u64 (nw (X.1.span []).1.fi 6 : Int), .bool (X.1.span []).1.em], .func (.func 65) #[] #[], .func (.func 66) #[.pointer (some ⟨bp, 0, none⟩)] #[]] W (MeetS K (stO X) (fiO X) W)) := fun W hW => by
    obtain ⟨hr1, hr2⟩ := Nd.ok_right HOX.out
    have h1 := HPR.out.later hW
    rw [HXW.out] at h1
    exact meetS_any W bp (X.1.span []).1 X.2 (X.1.span []).2 K hK1 hK (HTD.out.later (HBW2.out.trans (hW.mono HBW2.out.size))) h1 (spot_bd X.1 X.2 hr1 hr2)
   have HD : Hid (Below w2.heap.size w2 w2.drew) := (Below.refl _ _).drew
   obtain ⟨fi, hfi⟩ : ∃ fi, fi = (X.1.span []).1.fi := ⟨_, rfl⟩
   obtain ⟨em, hem⟩ : ∃ em, em = (X.1.span []).1.em := ⟨_, rfl⟩
   rw [← hfi, ← hem] at HBG HME
   clear hfi hem
   go_upto_region 7 with fail
   go_cut [11] from 36 to 51 (fun x11 wx => Below w.heap.size w wx ∧ ((∃ M N v8 v9, x11 = .bool true ∧ SpotsP K X M N ∧ M.length ≤ 2000 ∧ (∀ y, y ∈ M → Rch K (stO X) (fiO X) y) ∧ SitA wx K n SB NB CB (sv ++ [v8]) (nv ++ [v9]) (Ms ++ [M]) (nxs ++ [N])) ∨ (x11 = .bool false ∧ TooMany K (stO X) (fiO X))))
   case first =>
    refine wp_region_noPanic ?_
    refine wp_region_held_drew (S := (fun w' => w'.heap[CB]? = some (.cells #[.slice (some ⟨NB, 0, none⟩) n n] 113))) (by kernel_rfl) HSA2.out.cb (fun hHeld => ?_)
    refine wpAnyH_take (i := 0) (v := ?_) rfl (by kernel_rfl) (by kernel_rfl) (by kernel_rfl) (fun _ _ _ h => h) (Or.inl ⟨by rfl, ?_⟩) (by assumption) ?_
    rotate_left
    ·intro w hSw; have c_cb : w.cell? ⟨CB, 0, none⟩ = some (.slice (some ⟨NB, 0, none⟩) n n) := cell_of_row w CB 0 _ _ _ hSw; clear hSw; go_simp; try with_reducible rfl
    try simp only [Act.put, List.setIfInBounds_toArray, List.set_cons_zero, List.set_cons_succ]
    refine wpAnyH_take (i := 1) (v := ?_) rfl (by kernel_rfl) (by kernel_rfl) (by kernel_rfl) (fun _ _ _ h => h) (Or.inl ⟨by rfl, ?_⟩) (by assumption) ?_
    rotate_left
    ·intro w hSw; have c_cb : w.cell? ⟨CB, 0, none⟩ = some (.slice (some ⟨NB, 0, none⟩) n n) := cell_of_row w CB 0 _ _ _ hSw; clear hSw; go_simp; try with_reducible rfl
    try simp only [Act.put, List.setIfInBounds_toArray, List.set_cons_zero, List.set_cons_succ]
    refine wpAnyH_take (i := 3) (v := ?_) rfl (by kernel_rfl) (by kernel_rfl) (by kernel_rfl) (fun _ _ _ h => h) (Or.inl ⟨by rfl, ?_⟩) (by assumption) ?_
    rotate_left
    ·intro w hSw; have c_cb : w.cell? ⟨CB, 0, none⟩ = some (.slice (some ⟨NB, 0, none⟩) n n) := cell_of_row w CB 0 _ _ _ hSw; clear hSw; go_simp; try with_reducible rfl
    try simp only [Act.put, List.setIfInBounds_toArray, List.set_cons_zero, List.set_cons_succ]
    refine wpAnyH_take (i := 4) (v := ?_) rfl (by kernel_rfl) (by kernel_rfl) (by kernel_rfl) (fun _ _ _ h => h) (Or.inl ⟨by rfl, ?_⟩) (by assumption) ?_
    rotate_left
    ·intro w hSw; have c_cb : w.cell? ⟨CB, 0, none⟩ = some (.slice (some ⟨NB, 0, none⟩) n n) := cell_of_row w CB 0 _ _ _ hSw; clear hSw; go_simp; try with_reducible rfl
    try simp only [Act.put, List.setIfInBounds_toArray, List.set_cons_zero, List.set_cons_succ]
    refine wpAnyH_take (i := 5) (v := ?_) rfl (by kernel_rfl) (by kernel_rfl) (by kernel_rfl) (fun _ _ _ h => h) (Or.inl ⟨by rfl, ?_⟩) (by assumption) ?_
    rotate_left
    ·intro w hSw; have c_cb : w.cell? ⟨CB, 0, none⟩ = some (.slice (some ⟨NB, 0, none⟩) n n) := cell_of_row w CB 0 _ _ _ hSw; clear hSw; go_simp; try with_reducible rfl
    try simp only [Act.put, List.setIfInBounds_toArray, List.set_cons_zero, List.set_cons_succ]
    refine wpAnyH_take (i := 7) (v := ?_) rfl (by kernel_rfl) (by kernel_rfl) (by kernel_rfl) (fun _ _ _ h => h) (Or.inl ⟨by rfl, ?_⟩) (by assumption) ?_
    rotate_left
    ·intro w hSw; have c_cb : w.cell? ⟨CB, 0, none⟩ = some (.slice (some ⟨NB, 0, none⟩) n n) := cell_of_row w CB 0 _ _ _ hSw; clear hSw; go_simp; try with_reducible rfl
    try simp only [Act.put, List.setIfInBounds_toArray, List.set_cons_zero, List.set_cons_succ]
    refine wpAnyH_take (i := 2) (v := ?_) rfl (by kernel_rfl) (by kernel_rfl) (by kernel_rfl) (fun _ _ _ h => h) (Or.inl ⟨by rfl, ?_⟩) (by assumption) ?_
    rotate_left
    ·intro w hSw; have c_cb : w.cell? ⟨CB, 0, none⟩ = some (.slice (some ⟨NB, 0, none⟩) n n) := cell_of_row w CB 0 _ _ _ hSw; clear hSw; go_simp; try with_reducible rfl
    try simp only [Act.put, List.setIfInBounds_toArray, List.set_cons_zero, List.set_cons_succ]
    refine wpAnyH_take (i := 8) (v := ?_) rfl (by kernel_rfl) (by kernel_rfl) (by kernel_rfl) (fun _ _ _ h => h) (Or.inl ⟨by rfl, ?_⟩) (by assumption) ?_
    rotate_left
    ·intro w hSw; have c_cb : w.cell? ⟨CB, 0, none⟩ = some (.slice (some ⟨NB, 0, none⟩) n n) := cell_of_row w CB 0 _ _ _ hSw; clear hSw; go_simp; try with_reducible rfl
    try simp only [Act.put, List.setIfInBounds_toArray, List.set_cons_zero, List.set_cons_succ]
    refine wpAnyH_ready (rs := [6]) (by kernel_rfl) (by simp) ?_
    refine AllReadyH.cons rfl (fun KK hK => ?_) AllReadyH.nil
    go_simp
    refine (HBG.out _ HD.out).mono ?_
    rintro e w3 ⟨rfl, hb3⟩
    have HB3 : Hid (Below w2.heap.size w2 w3) := HD.out.trans (hb3.mono HD.out.size)
    go_simp
    refine hK.out _ _ (HSA2.out.later HB3.out).cb (fun hHeld => ?_)
    clear hK KK hb3
    try simp only [Act.put, List.setIfInBounds_toArray, List.set_cons_zero, List.set_cons_succ]
    refine wpAnyH_ready (rs := [9]) (by kernel_rfl) (by simp) ?_
    refine AllReadyH.cons rfl (fun KK hK => ?_) AllReadyH.nil
    go_simp
    refine (HME.out _ HB3.out).mono ?_
    rintro e w4 ⟨hb4, hor⟩
    have HB4 : Hid (Below w2.heap.size w2 w4) := HB3.out.trans (hb4.mono HB3.out.size)
    have HBW4 : Hid (Below w.heap.size w w4) := HBW2.out.trans (HB4.out.mono HBW2.out.size)
    have HSA4 : Hid (SitA w4 K n SB NB CB sv nv Ms nxs) := HSA2.out.later HB4.out
    clear hb4
    rcases hor with ⟨M, N, v8, v9, rfl, hmp, hlen, h2000, hrch, hown8, hnx9⟩ | ⟨rfl, htm⟩
    ·obtain ⟨a8, c8, hv8⟩ := own_sl1 hown8
     obtain ⟨m8, hm8⟩ : ∃ m8, m8 = M.length := ⟨_, rfl⟩
     rw [← hm8] at hv8
     subst hv8
     obtain ⟨m9, hm9⟩ : ∃ m9, m9 = N.length := ⟨_, rfl⟩
     obtain ⟨a9, c9, hv9⟩ : ∃ a9 c9, v9 = .slice a9 m9 c9 := by
      obtain ⟨bs, _, h2, _⟩ := hnx9
      rw [hm9]
      exact own_sl1 h2
     subst hv9
     have hS4 := HSA4.out
     have hsl : (sv ++ List.replicate (n - Ms.length) nilV)[k]? = some nilV := by
      rw [List.getElem?_append_right (by rw [hS4.ls, HMK.out]; exact Nat.le_refl _), hS4.ls, HMK.out, Nat.sub_self, List.getElem?_replicate, if_pos (by omega)]
     have hnl : (nv ++ List.replicate (n - Ms.length) nilV)[k]? = some nilV := by
      rw [List.getElem?_append_right (by rw [hS4.ln, HMK.out]; exact Nat.le_refl _), hS4.ln, HMK.out, Nat.sub_self, List.getElem?_replicate, if_pos (by omega)]
     have s1 : w4.cell? ⟨SB, k, none⟩ = some (.slice none 0 0) := by rw [cell_of_row w4 SB k _ _ _ hS4.sb, List.getElem?_toArray]; exact hsl
     have s2 : w4.frozen? ⟨SB, k, none⟩ = false := Lib.frozen_of_heap hS4.sb k
     have hSN : SB ≠ NB := ne_ty hS4.sb hS4.nb (by decide)
     have hSC : CB ≠ SB := ne_ty hS4.cb hS4.sb (by decide)
     have hNC : CB ≠ NB := ne_ty hS4.cb hS4.nb (by decide)
     have n5 := ((grown_cell w4 SB k (Value.slice a8 m8 c8)).block NB (Array.getElem?_eq_some_iff.1 hS4.nb).1 (fun e => hSN (Option.some.inj e).symm)).trans hS4.nb
     have t1 : (w4.setCell ⟨SB, k, none⟩ (Value.slice a8 m8 c8)).cell? ⟨NB, k, none⟩ = some (.slice none 0 0) := by rw [cell_of_row _ NB k _ _ _ n5, List.getElem?_toArray]; exact hnl
     have t2 : (w4.setCell ⟨SB, k, none⟩ (Value.slice a8 m8 c8)).frozen? ⟨NB, k, none⟩ = false := Lib.frozen_of_heap n5 k
     have HC5 : Hid ((w4.setCell ⟨SB, k, none⟩ (Value.slice a8 m8 c8)).heap[CB]? = some (.cells #[.slice (some ⟨NB, 0, none⟩) n n] 113)) := ((grown_cell w4 SB k (Value.slice a8 m8 c8)).block CB (Array.getElem?_eq_some_iff.1 hS4.cb).1 (fun e => hSC (Option.some.inj e))).trans hS4.cb
     have HC6 : Hid (((w4.setCell ⟨SB, k, none⟩ (Value.slice a8 m8 c8)).setCell ⟨NB, k, none⟩ (Value.slice a9 m9 c9)).heap[CB]? = some (.cells #[.slice (some ⟨NB, 0, none⟩) n n] 113)) := ((grown_cell (w4.setCell ⟨SB, k, none⟩ (Value.slice a8 m8 c8)) NB k (Value.slice a9 m9 c9)).block CB (Array.getElem?_eq_some_iff.1 HC5.out).1 (fun e => hNC (Option.some.inj e))).trans HC5.out
     have HB6 : Hid (Below w.heap.size w ((w4.setCell ⟨SB, k, none⟩ (Value.slice a8 m8 c8)).setCell ⟨NB, k, none⟩ (Value.slice a9 m9 c9))) := (HBW4.out.setCell (p := ⟨SB, k, none⟩) HSW.out.1 _).setCell (p := ⟨NB, k, none⟩) HSW.out.2.1 _
     have HFS : Hid (SpotsP K X M N ∧ M.length ≤ 2000 ∧ (∀ y, y ∈ M → Rch K (stO X) (fiO X) y) ∧ SitA ((w4.setCell ⟨SB, k, none⟩ (Value.slice a8 m8 c8)).setCell ⟨NB, k, none⟩ (Value.slice a9 m9 c9)) K n SB NB CB (sv ++ [Value.slice a8 m8 c8]) (nv ++ [Value.slice a9 m9 c9]) (Ms ++ [M]) (nxs ++ [N])) := by
      have h1 := hS4.step (by rw [HMK.out]; exact hlt) ⟨_, hown8⟩ hnx9.w
      rw [HMK.out] at h1
      exact ⟨⟨hmp, hlen⟩, h2000, hrch, h1⟩
     clear hsl hnl hSN hSC hNC n5 hS4 hmp hlen h2000 hrch hown8 hnx9 hm8 hm9
     go_simp
     refine hK.out _ _ HSA4.out.cb (fun hHeld => ?_)
     clear hK KK
     try simp only [Act.put, List.setIfInBounds_toArray, List.set_cons_zero, List.set_cons_succ]
     refine wpAnyH_take (i := 10) (v := ?_) rfl (by kernel_rfl) (by kernel_rfl) (by kernel_rfl) (fun _ _ _ h => h) (Or.inl ⟨by rfl, ?_⟩) (by assumption) ?_
     rotate_left
     ·intro w hSw; have c_cb : w.cell? ⟨CB, 0, none⟩ = some (.slice (some ⟨NB, 0, none⟩) n n) := cell_of_row w CB 0 _ _ _ hSw; clear hSw; go_simp; try with_reducible rfl
     try simp only [Act.put, List.setIfInBounds_toArray, List.set_cons_zero, List.set_cons_succ]
     refine wpAnyH_take (i := 11) (v := ?_) rfl (by kernel_rfl) (by kernel_rfl) (by kernel_rfl) (fun _ _ _ h => h) (Or.inl ⟨by rfl, ?_⟩) (by assumption) ?_
     rotate_left
     ·intro w hSw; have c_cb : w.cell? ⟨CB, 0, none⟩ = some (.slice (some ⟨NB, 0, none⟩) n n) := cell_of_row w CB 0 _ _ _ hSw; clear hSw; go_simp; try with_reducible rfl
     try simp only [Act.put, List.setIfInBounds_toArray, List.set_cons_zero, List.set_cons_succ]
     refine wpAnyH_take (i := 12) (v := ?_) rfl (by kernel_rfl) (by kernel_rfl) (by kernel_rfl) (fun _ _ _ h => h) (Or.inl ⟨by rfl, ?_⟩) (by assumption) ?_
     rotate_left
     ·intro w hSw; have c_cb : w.cell? ⟨CB, 0, none⟩ = some (.slice (some ⟨NB, 0, none⟩) n n) := cell_of_row w CB 0 _ _ _ hSw; clear hSw; go_simp; try with_reducible rfl
     try simp only [Act.put, List.setIfInBounds_toArray, List.set_cons_zero, List.set_cons_succ]
     refine wpAnyH_take (i := 13) (v := ?_) rfl (by kernel_rfl) (by kernel_rfl) (by kernel_rfl) (fun _ _ _ h => h) (Or.inl ⟨by rfl, ?_⟩) (by assumption) ?_
     rotate_left
     ·intro w hSw; have c_cb : w.cell? ⟨CB, 0, none⟩ = some (.slice (some ⟨NB, 0, none⟩) n n) := cell_of_row w CB 0 _ _ _ hSw; clear hSw; go_simp; try with_reducible rfl
     try simp only [Act.put, List.setIfInBounds_toArray, List.set_cons_zero, List.set_cons_succ]
     refine wpAnyH_take (i := 14) (v := ?_) rfl (by kernel_rfl) (by kernel_rfl) (by kernel_rfl) (fun _ _ _ h => h) (Or.inl ⟨by rfl, ?_⟩) (by assumption) ?_
     rotate_left
     ·intro w hSw; have c_cb : w.cell? ⟨CB, 0, none⟩ = some (.slice (some ⟨NB, 0, none⟩) n n) := cell_of_row w CB 0 _ _ _ hSw; clear hSw; go_simp; try with_reducible rfl
     try simp only [Act.put, List.setIfInBounds_toArray, List.set_cons_zero, List.set_cons_succ]
     refine wpAnyH_ready (rs := [15]) (by kernel_rfl) (by simp) ?_
     refine AllReadyH.cons rfl (fun KK hK => ?_) AllReadyH.nil
     go_simp
     refine hK.out _ _ HC5.out (fun hHeld => ?_)
     clear hK KK
     try simp only [Act.put, List.setIfInBounds_toArray, List.set_cons_zero, List.set_cons_succ]
     refine wpAnyH_take (i := 16) (v := ?_) rfl (by kernel_rfl) (by kernel_rfl) (by kernel_rfl) (fun _ _ _ h => h) (Or.inl ⟨by rfl, ?_⟩) (by assumption) ?_
     rotate_left
     ·intro w hSw; have c_cb : w.cell? ⟨CB, 0, none⟩ = some (.slice (some ⟨NB, 0, none⟩) n n) := cell_of_row w CB 0 _ _ _ hSw; clear hSw; go_simp; try with_reducible rfl
     try simp only [Act.put, List.setIfInBounds_toArray, List.set_cons_zero, List.set_cons_succ]
     refine wpAnyH_ready (rs := [17]) (by kernel_rfl) (by simp) ?_
     refine AllReadyH.cons rfl (fun KK hK => ?_) AllReadyH.nil
     go_simp
     refine hK.out _ _ HC6.out (fun hHeld => ?_)
     clear hK KK
     try simp only [Act.put, List.setIfInBounds_toArray, List.set_cons_zero, List.set_cons_succ]
     refine wpAnyH_ready (rs := [18]) (by kernel_rfl) (by simp) ?_
     refine AllReadyH.cons rfl (fun KK hK => ?_) AllReadyH.nil
     go_simp
     refine hK.out _ _ HC6.out (fun hHeld => ?_)
     clear hK KK
     try simp only [Act.put, List.setIfInBounds_toArray, List.set_cons_zero, List.set_cons_succ]
     refine wpAnyH_done (by kernel_rfl) ?_ _
     refine NoPanic.normal ?_
     go_wp2_with fail
     go_meet
     exact ⟨HB6.out, .inl ⟨M, N, _, _, rfl, HFS.out.1, HFS.out.2.1, HFS.out.2.2.1, HFS.out.2.2.2⟩⟩
    ·have HTM : Hid (TooMany K (stO X) (fiO X)) := htm
     have hS4 := HSA4.out
     have hsl : (sv ++ List.replicate (n - Ms.length) nilV)[k]? = some nilV := by
      rw [List.getElem?_append_right (by rw [hS4.ls, HMK.out]; exact Nat.le_refl _), hS4.ls, HMK.out, Nat.sub_self, List.getElem?_replicate, if_pos (by omega)]
     have hnl : (nv ++ List.replicate (n - Ms.length) nilV)[k]? = some nilV := by
      rw [List.getElem?_append_right (by rw [hS4.ln, HMK.out]; exact Nat.le_refl _), hS4.ln, HMK.out, Nat.sub_self, List.getElem?_replicate, if_pos (by omega)]
     have s1 : w4.cell? ⟨SB, k, none⟩ = some (.slice none 0 0) := by rw [cell_of_row w4 SB k _ _ _ hS4.sb, List.getElem?_toArray]; exact hsl
     have s2 : w4.frozen? ⟨SB, k, none⟩ = false := Lib.frozen_of_heap hS4.sb k
     have hSN : SB ≠ NB := ne_ty hS4.sb hS4.nb (by decide)
     have hSC : CB ≠ SB := ne_ty hS4.cb hS4.sb (by decide)
     have hNC : CB ≠ NB := ne_ty hS4.cb hS4.nb (by decide)
     have n5 := ((grown_cell w4 SB k (Value.slice none 0 0)).block NB (Array.getElem?_eq_some_iff.1 hS4.nb).1 (fun e => hSN (Option.some.inj e).symm)).trans hS4.nb
     have t1 : (w4.setCell ⟨SB, k, none⟩ (Value.slice none 0 0)).cell? ⟨NB, k, none⟩ = some (.slice none 0 0) := by rw [cell_of_row _ NB k _ _ _ n5, List.getElem?_toArray]; exact hnl
     have t2 : (w4.setCell ⟨SB, k, none⟩ (Value.slice none 0 0)).frozen? ⟨NB, k, none⟩ = false := Lib.frozen_of_heap n5 k
     have HC5 : Hid ((w4.setCell ⟨SB, k, none⟩ (Value.slice none 0 0)).heap[CB]? = some (.cells #[.slice (some ⟨NB, 0, none⟩) n n] 113)) := ((grown_cell w4 SB k (Value.slice none 0 0)).block CB (Array.getElem?_eq_some_iff.1 hS4.cb).1 (fun e => hSC (Option.some.inj e))).trans hS4.cb
     have HC6 : Hid (((w4.setCell ⟨SB, k, none⟩ (Value.slice none 0 0)).setCell ⟨NB, k, none⟩ (Value.slice none 0 0)).heap[CB]? = some (.cells #[.slice (some ⟨NB, 0, none⟩) n n] 113)) := ((grown_cell (w4.setCell ⟨SB, k, none⟩ (Value.slice none 0 0)) NB k (Value.slice none 0 0)).block CB (Array.getElem?_eq_some_iff.1 HC5.out).1 (fun e => hNC (Option.some.inj e))).trans HC5.out
     have HB6 : Hid (Below w.heap.size w ((w4.setCell ⟨SB, k, none⟩ (Value.slice none 0 0)).setCell ⟨NB, k, none⟩ (Value.slice none 0 0))) := (HBW4.out.setCell (p := ⟨SB, k, none⟩) HSW.out.1 _).setCell (p := ⟨NB, k, none⟩) HSW.out.2.1 _
     clear hsl hnl hSN hSC hNC n5 hS4 htm
     go_simp
     refine hK.out _ _ HSA4.out.cb (fun hHeld => ?_)
     clear hK KK
     try simp only [Act.put, List.setIfInBounds_toArray, List.set_cons_zero, List.set_cons_succ]
     refine wpAnyH_take (i := 10) (v := ?_) rfl (by kernel_rfl) (by kernel_rfl) (by kernel_rfl) (fun _ _ _ h => h) (Or.inl ⟨by rfl, ?_⟩) (by assumption) ?_
     rotate_left
     ·intro w hSw; have c_cb : w.cell? ⟨CB, 0, none⟩ = some (.slice (some ⟨NB, 0, none⟩) n n) := cell_of_row w CB 0 _ _ _ hSw; clear hSw; go_simp; try with_reducible rfl
     try simp only [Act.put, List.setIfInBounds_toArray, List.set_cons_zero, List.set_cons_succ]
     refine wpAnyH_take (i := 11) (v := ?_) rfl (by kernel_rfl) (by kernel_rfl) (by kernel_rfl) (fun _ _ _ h => h) (Or.inl ⟨by rfl, ?_⟩) (by assumption) ?_
     rotate_left
     ·intro w hSw; have c_cb : w.cell? ⟨CB, 0, none⟩ = some (.slice (some ⟨NB, 0, none⟩) n n) := cell_of_row w CB 0 _ _ _ hSw; clear hSw; go_simp; try with_reducible rfl
     try simp only [Act.put, List.setIfInBounds_toArray, List.set_cons_zero, List.set_cons_succ]
     refine wpAnyH_take (i := 12) (v := ?_) rfl (by kernel_rfl) (by kernel_rfl) (by kernel_rfl) (fun _ _ _ h => h) (Or.inl ⟨by rfl, ?_⟩) (by assumption) ?_
     rotate_left
     ·intro w hSw; have c_cb : w.cell? ⟨CB, 0, none⟩ = some (.slice (some ⟨NB, 0, none⟩) n n) := cell_of_row w CB 0 _ _ _ hSw; clear hSw; go_simp; try with_reducible rfl
     try simp only [Act.put, List.setIfInBounds_toArray, List.set_cons_zero, List.set_cons_succ]
     refine wpAnyH_take (i := 13) (v := ?_) rfl (by kernel_rfl) (by kernel_rfl) (by kernel_rfl) (fun _ _ _ h => h) (Or.inl ⟨by rfl, ?_⟩) (by assumption) ?_
     rotate_left
     ·intro w hSw; have c_cb : w.cell? ⟨CB, 0, none⟩ = some (.slice (some ⟨NB, 0, none⟩) n n) := cell_of_row w CB 0 _ _ _ hSw; clear hSw; go_simp; try with_reducible rfl
     try simp only [Act.put, List.setIfInBounds_toArray, List.set_cons_zero, List.set_cons_succ]
     refine wpAnyH_take (i := 14) (v := ?_) rfl (by kernel_rfl) (by kernel_rfl) (by kernel_rfl) (fun _ _ _ h => h) (Or.inl ⟨by rfl, ?_⟩) (by assumption) ?_
     rotate_left
     ·intro w hSw; have c_cb : w.cell? ⟨CB, 0, none⟩ = some (.slice (some ⟨NB, 0, none⟩) n n) := cell_of_row w CB 0 _ _ _ hSw; clear hSw; go_simp; try with_reducible rfl
     try simp only [Act.put, List.setIfInBounds_toArray, List.set_cons_zero, List.set_cons_succ]
     refine wpAnyH_ready (rs := [15]) (by kernel_rfl) (by simp) ?_
     refine AllReadyH.cons rfl (fun KK hK => ?_) AllReadyH.nil
     go_simp
     refine hK.out _ _ HC5.out (fun hHeld => ?_)
     clear hK KK
     try simp only [Act.put, List.setIfInBounds_toArray, List.set_cons_zero, List.set_cons_succ]
     refine wpAnyH_take (i := 16) (v := ?_) rfl (by kernel_rfl) (by kernel_rfl) (by kernel_rfl) (fun _ _ _ h => h) (Or.inl ⟨by rfl, ?_⟩) (by assumption) ?_
     rotate_left
     ·intro w hSw; have c_cb : w.cell? ⟨CB, 0, none⟩ = some (.slice (some ⟨NB, 0, none⟩) n n) := cell_of_row w CB 0 _ _ _ hSw; clear hSw; go_simp; try with_reducible rfl
     try simp only [Act.put, List.setIfInBounds_toArray, List.set_cons_zero, List.set_cons_succ]
     refine wpAnyH_ready (rs := [17]) (by kernel_rfl) (by simp) ?_
     refine AllReadyH.cons rfl (fun KK hK => ?_) AllReadyH.nil
     go_simp
     refine hK.out _ _ HC6.out (fun hHeld => ?_)
     clear hK KK
     try simp only [Act.put, List.setIfInBounds_toArray, List.set_cons_zero, List.set_cons_succ]
     refine wpAnyH_ready (rs := [18]) (by kernel_rfl) (by simp) ?_
     refine AllReadyH.cons rfl (fun KK hK => ?_) AllReadyH.nil
     go_simp
     refine hK.out _ _ HC6.out (fun hHeld => ?_)
     clear hK KK
     try simp only [Act.put, List.setIfInBounds_toArray, List.set_cons_zero, List.set_cons_succ]
     refine wpAnyH_done (by kernel_rfl) ?_ _
     refine NoPanic.normal ?_
     go_wp2_with fail
     go_meet
     exact ⟨HB6.out, .inr ⟨rfl, HTM.out⟩⟩
   case rest =>
    obtain ⟨hbx, hor⟩ := hcut
    obtain ⟨w6, hw6⟩ : ∃ W, W = wc := ⟨_, rfl⟩
    rw [← hw6] at hor hbx ⊢
    have HBX6 : Hid (Below w.heap.size w w6) := hbx
    clear hw6 HBG HME HD hbx
    rcases hor with ⟨M, N, v8, v9, rfl, hsp, h2000, hrch, hsa⟩ | ⟨rfl, htm⟩
    ·have HNX : Hid (SitA w6 K n SB NB CB (sv ++ [v8]) (nv ++ [v9]) (Ms ++ [M]) (nxs ++ [N]) ∧ SpotsA K (xs.take (k + 1)) (Ms ++ [M]) (nxs ++ [N])) := by
      refine ⟨hsa, fun i x m N' h1 h2 h3 => ?_⟩
      have hlx : nxs.length = k := by rw [HSA2.out.lx]; exact HMK.out
      rw [take_snoc xs k hkn] at h1
      have hxk : xs[k] = X := by
       have := HXK.out
       rw [List.getElem?_eq_getElem hkn] at this
       exact Option.some.inj this
      rw [hxk] at h1
      have hlt1 : (xs.take k).length = k := by rw [List.length_take]; omega
      rcases snoc_get h1 with ⟨k1, k2⟩ | ⟨k1, rfl⟩
      ·rcases snoc_get h2 with ⟨k3, k4⟩ | ⟨k3, rfl⟩
       ·rcases snoc_get h3 with ⟨k5, k6⟩ | ⟨k5, rfl⟩
        ·exact HSP.out i x m N' k2 k4 k6
        ·omega
       ·have := HMK.out; omega
      ·rcases snoc_get h2 with ⟨k3, k4⟩ | ⟨k3, rfl⟩
       ·have := HMK.out; omega
       ·rcases snoc_get h3 with ⟨k5, k6⟩ | ⟨k5, rfl⟩
        ·omega
        ·exact ⟨hsp, h2000, hrch⟩
     clear hsp h2000 hrch hsa
     go_wp2
     go_roundw
     case rel => exact ⟨k + 1, _, _, Ms ++ [M], nxs ++ [N], by omega, by go_num, by simp [HMK.out], HNX.out.1, HNX.out.2, HBX6.out⟩
     case measure => simp [intOf]; omega
    ·have HTM : Hid (SitF K xs) := .inl ⟨X, List.mem_of_getElem? HXK.out, htm⟩
     clear htm
     go_wp2
     go_ret2
     exact ⟨HBX6.out, .inr ⟨rfl, HTM.out⟩⟩
  ·have hkn : k = n := by omega
   have HMN : Hid (Ms.length = n ∧ nxs.length = n ∧ sv.length = n) := ⟨by rw [HMK.out]; exact hkn, by rw [HSA1.out.lx, HMK.out]; exact hkn, by rw [HSA1.out.ls, HMK.out]; exact hkn⟩
   have HSP1 : Hid (SpotsA K xs Ms nxs) := by
    have h1 := HSP.out
    rw [List.take_of_length_le (by rw [← HN.out]; omega)] at h1
    exact h1
   have hmk := make_i n (by omega)
   obtain ⟨wL, hwL⟩ : ∃ wL, wL = wr.alloc (.cells (iv (List.replicate n 0)).toArray 3) := ⟨_, rfl⟩
   obtain ⟨b0, hb0⟩ : ∃ b0, b0 = wr.heap.size := ⟨_, rfl⟩
   have HBL : Hid (Below wr.heap.size wr wL) := by rw [hwL]; exact (Below.refl _ wr).alloc (Nat.le_refl _) _
   have HWL : Hid (Below w.heap.size w wL) := HBW.out.trans (HBL.out.mono HBW.out.size)
   have HSL : Hid (SitA wL K n SB NB CB sv nv Ms nxs) := HSA1.out.later HBL.out
   have HIB : Hid (IRow wL b0 (List.replicate n 0)) := by show IRow _ _ _; rw [hwL, hb0]; exact heap_alloc_new wr _
   have HRA : Hid (∀ x, Rch K (stepAll nxs) (List.replicate n 0) x → InAll K nxs x) := by rw [HN.out]; exact rch_all (by rw [← HN.out]; exact HMN.out.1) (by rw [← HN.out]; exact HMN.out.2.1) HSP1.out
   have HWD : Hid (∀ N, N ∈ nxs → Wide K N ∧ N.length ≤ 2000) := fun N hN => by
    obtain ⟨i, hi, rfl⟩ := List.getElem_of_mem hN
    have h1 : i < Ms.length := by have := HMN.out; omega
    have h2 : i < xs.length := by have := HMN.out; have := HN.out; omega
    obtain ⟨k1, k2, _⟩ := HSP1.out i _ _ _ (List.getElem?_eq_getElem h2) (List.getElem?_eq_getElem h1) (List.getElem?_eq_getElem hi)
    exact ⟨k1.meet.wide, by rw [k1.all]; exact k2⟩
   have HML : Hid (Calls Tryd.prog 68 #[.int .i64 (K : Int), .slice (some ⟨b0, 0, none⟩) n n, .func (.func 69) #[] #[], .func (.func 67) #[] #[.pointer (some ⟨CB, 0, none⟩)]] wL (MeetL n K (stepAll nxs) (List.replicate n 0) wL)) := by
    refine meetL_any wL n K b0 (.pointer (some ⟨CB, 0, none⟩)) (stepAll nxs) (List.replicate n 0) hK1 hK (by omega) HIB.out (fun x hx => ?_) (fun W x b c hc hW hx hi => ?_)
    ·obtain ⟨k1, k2⟩ := HRA.out x hx
     refine ⟨by rw [k1]; exact HMN.out.2.1, fun e he => ?_⟩
     obtain ⟨i, hi, rfl⟩ := List.getElem_of_mem he
     have h1 := k2 i hi (by rw [← k1]; exact hi)
     have h2 := (HWD.out _ (List.getElem_mem (by rw [← k1]; exact hi : i < nxs.length))).2
     omega
    ·have k1 := HRA.out x hx
     have hl : x.length = n := by rw [k1.1]; exact HMN.out.2.1
     have h1 := sit1_any W K CB b c nxs x hc hK (by omega) k1 HWD.out hi ((HSL.out.later hW).sitN HMN.out.1)
     rw [hl] at h1
     exact h1
   clear hkn
   go_wp2_with fail
   rw [← hb0, ← hwL]
   clear hb0 hwL hmk
   refine HML.out.mono ?_
   rintro e w5 ⟨hb5, hor⟩
   have HB5 : Hid (Below w.heap.size w w5) := HWL.out.trans (hb5.mono HWL.out.size)
   have HS5 : Hid (SitA w5 K n SB NB CB sv nv Ms nxs) := HSL.out.later hb5
   clear hb5 HML
   rcases hor with ⟨M, N, v8, v9, rfl, hmp, hlen, h2000, hrch, hm8, hn9⟩ | ⟨rfl, htm⟩
   ·obtain ⟨m, hm⟩ : ∃ m, m = M.length := ⟨_, rfl⟩
    have HMM : Hid (m = M.length ∧ N.length = M.length ∧ M.length ≤ 2000) := ⟨hm, hlen, h2000⟩
    have HMP : Hid (MeetP K (stepAll nxs) (List.replicate n 0) M N) := hmp
    have HRM : Hid (∀ x, x ∈ M → InAll K nxs x) := fun x hx => HRA.out x (hrch x hx)
    have HM8 : Hid (NxW w5 n v8 M) := hm8.w
    have HN9 : Hid (NxW w5 K v9 N) := hn9.w
    obtain ⟨a8, c8, hv8⟩ : ∃ a8 c8, v8 = .slice a8 m c8 := by
     obtain ⟨bs, _, h2, _⟩ := hm8
     rw [hm]
     exact own_sl1 h2
    obtain ⟨a9, c9, hv9⟩ : ∃ a9 c9, v9 = .slice a9 m c9 := by
     obtain ⟨bs, _, h2, _⟩ := hn9
     rw [hm, ← hlen]
     exact own_sl1 h2
    subst hv8 hv9
    have hmi : (m : Int) ≤ 2000 := by omega
    have hmk := make_u m (by omega)
    obtain ⟨OB, hOB⟩ : ∃ OB, OB = w5.heap.size := ⟨_, rfl⟩
    obtain ⟨wO, hwO⟩ : ∃ wO, wO = w5.alloc (.cells (uv (List.replicate m 0)).toArray 64) := ⟨_, rfl⟩
    have HBO : Hid (Below w5.heap.size w5 wO) := by rw [hwO]; exact (Below.refl _ w5).alloc (Nat.le_refl _) _
    have HUO : Hid (URow wO OB (List.replicate m 0)) := by show URow _ _ _; rw [hwO, hOB]; exact heap_alloc_new w5 _
    have HOB : Hid (OB = w5.heap.size) := hOB
    obtain ⟨f, hf⟩ : ∃ f : List Nat → List Bool, f = fun l => List.zipWith (fun m s => (m.getD s (0, false)).2) Ms l := ⟨_, rfl⟩
    have HFF : Hid (f = fun l => List.zipWith (fun m s => (m.getD s (0, false)).2) Ms l) := hf
    have HUP : Hid (∀ (wz : World), wO.grownBy wz (some OB) → ∀ p v, w5.cell? p = some v → wz.cell? p = some v) := fun wz hg p v hv => by
     have hl := World.block_lt_of_cell? w5 _ hv
     refine (cell_same ?_).trans (upC HBO.out hv)
     exact hg.block _ (Nat.lt_of_lt_of_le hl HBO.out.size) (fun e => by have := Option.some.inj e; have := HOB.out; omega)
    clear hm hmp hlen h2000 hrch hm8 hn9 hf
    go_upto_region 16 with fail
    rw [← hOB, ← hwO]
    clear hOB hwO hmk
    go_wp2
    go_loopw [73] (fun x73 wz => ∃ j : Nat, j ≤ m ∧ x73 = .int .i64 (j : Int) ∧ wO.grownBy wz (some OB) ∧ URow wz OB ((M.map (fun l => bitsN 0 (f l))).take j ++ List.replicate (m - j) 0)) (fun x73 _ => m - (intOf x73).toNat)
    case atStart => exact ⟨0, by omega, rfl, grown_refl _ _, by simpa using HUO.out⟩
    case round =>
     obtain ⟨j, hj, hx73, hg, hur⟩ := hrel
     subst hx73
     have HG : Hid (wO.grownBy wr (some OB)) := hg
     have HUR : Hid (URow wr OB ((M.map (fun l => bitsN 0 (f l))).take j ++ List.replicate (m - j) 0)) := hur
     clear hg hur
     by_cases hltj : j < m
     ·have hjM : j < M.length := by rw [← HMM.out.1]; exact hltj
      have hji : (j : Int) < (m : Int) := by omega
      obtain ⟨g8, cap8, rb, hv8, hg8, hrb⟩ := HM8.out.read hjM
      rw [← HMM.out.1] at hv8
      cases hv8
      obtain ⟨x, hx⟩ : ∃ x, x = M[j] := ⟨_, rfl⟩
      rw [← hx] at hrb
      have HRB : Hid (IRow w5 rb x) := hrb
      have HXI : Hid (InAll K nxs x) := by rw [hx]; exact HRM.out _ (List.getElem_mem hjM)
      have HXJ : Hid (x = M[j]) := hx
      have hxl : x.length = n := by rw [HXI.out.1]; exact HMN.out.2.1
      have HXN : Hid (x.length = n) := hxl
      have a0 := HUP.out wr HG.out _ _ hg8
      have HFL : Hid ((f x).length = n) := by show _ = n; rw [HFF.out]; simp [HMN.out.1, hxl]
      have HST : Hid (URow wr OB ((M.map (fun l => bitsN 0 (f l))).take j ++ (bitsN 0 ((f x).take 0) :: List.replicate (m - (j + 1)) 0))) := by
       have h1 := HUR.out
       rw [show m - j = (m - (j + 1)) + 1 by omega, List.replicate_succ] at h1
       show URow _ _ _
       simpa [bitsN] using h1
      clear hg8 hrb hx hxl
      go_wp2
      go_loopw [80] (fun x80 wz => ∃ i : Nat, i ≤ n ∧ x80 = .int .i64 (i : Int) ∧ wO.grownBy wz (some OB) ∧ URow wz OB ((M.map (fun l => bitsN 0 (f l))).take j ++ (bitsN 0 ((f x).take i) :: List.replicate (m - (j + 1)) 0))) (fun x80 _ => n - (intOf x80).toNat)
      case atStart => exact ⟨0, by omega, rfl, HG.out, HST.out⟩
      case round =>
       obtain ⟨i, hi, hx80, hg, hur⟩ := hrel
       subst hx80
       have HGI : Hid (wO.grownBy wr (some OB)) := hg
       have HUI : Hid (URow wr OB ((M.map (fun l => bitsN 0 (f l))).take j ++ (bitsN 0 ((f x).take i) :: List.replicate (m - (j + 1)) 0))) := hur
       clear hg hur
       by_cases hlti : i < n
       ·have hix : i < x.length := by rw [HXN.out]; exact hlti
        have hiM : i < Ms.length := by rw [HMN.out.1]; exact hlti
        have hiS : i < sv.length := by rw [HMN.out.2.2]; exact hlti
        have hiN : i < nxs.length := by rw [HMN.out.2.1]; exact hlti
        have hiX : i < xs.length := by rw [← HN.out]; exact hlti
        obtain ⟨s, hs⟩ : ∃ s, s = x[i] := ⟨_, rfl⟩
        have a1 := HUP.out wr HGI.out _ _ (HRB.out.cell hix)
        rw [← hs] at a1
        have hsv : w5.cell? ⟨SB, i, none⟩ = some sv[i] := by
         rw [cell_of_row w5 SB i _ _ _ HS5.out.sb, List.getElem?_toArray, List.getElem?_append_left hiS, List.getElem?_eq_getElem hiS]
        obtain ⟨B, hsp⟩ := HS5.out.sp i _ _ (List.getElem?_eq_getElem hiS) (List.getElem?_eq_getElem hiM)
        obtain ⟨hspp, h2k, _⟩ := HSP1.out i _ _ _ (List.getElem?_eq_getElem hiX) (List.getElem?_eq_getElem hiM) (List.getElem?_eq_getElem hiN)
        have hsM : s < Ms[i].length := by
         rw [hs, ← hspp.all]
         exact HXI.out.2 i hix hiN
        rcases hsp.2 with ⟨_, h0⟩ | ⟨gg, cc, cur, hvv, _, hgg, _, _, _, h7⟩
        ·omega
        have a2 := HUP.out wr HGI.out _ _ (hsv.trans (by rw [hvv]))
        have hfit : w5.cell? ⟨gg, s * 8 + 7, none⟩ = some (.bool (Ms[i][s]).2) := by
         have h8 := spFlat_get Ms[i] s 7 _ (List.getElem?_eq_getElem hsM) (by omega)
         rw [← h7, List.getElem?_take, if_pos (by omega), Array.getElem?_toList] at h8
         exact (cell_of_row w5 gg (s * 8 + 7) _ _ _ hgg).trans h8
        have a3 := HUP.out wr HGI.out _ _ hfit
        obtain ⟨z, hz⟩ : ∃ z, z = (Ms[i][s]).2 := ⟨_, rfl⟩
        rw [← hz] at a3
        obtain ⟨q, hq⟩ : ∃ q, q = Ms[i].length := ⟨_, rfl⟩
        rw [← hq] at a2 hsM h2k
        have hqi : (q : Int) ≤ 2000 := by omega
        have hsi : (s : Int) < (q : Int) := by omega
        have hii : (i : Int) < (n : Int) := by omega
        have hi64 : (i : Int) < 64 := by omega
        have hfx : (f x)[i]? = some z := by
         rw [HFF.out, List.getElem?_eq_getElem (by simp; omega), hz]
         subst hs
         rw [hq] at hsM
         simp [List.getD_eq_getElem?_getD, hsM]
        have hfi : i < (f x).length := by rw [HFL.out]; exact hlti
        have HBN : Hid (bitsN 0 ((f x).take (i + 1)) = bitsN 0 ((f x).take i) ||| (if z = true then 2 ^ i else 0)) := by
         show _ = _
         rw [take_snoc _ i hfi, bitsN_snoc, List.length_take, Nat.zero_add, Nat.min_eq_left (by omega)]
         rw [List.getElem?_eq_getElem hfi] at hfx
         rw [Option.some.inj hfx]
        obtain ⟨acc, hacc⟩ : ∃ acc, acc = bitsN 0 ((f x).take i) := ⟨_, rfl⟩
        have hacl : acc < 18446744073709551616 := by rw [hacc]; exact bitsN_lt _ (by rw [List.length_take]; have := HFL.out; omega)
        rw [← hacc] at HBN HUI
        clear hs hsv hsp hspp h7 hgg hvv hfit hz hq hfx hacc
        cases z with
        | false =>
          have HNX : Hid (URow wr OB ((M.map (fun l => bitsN 0 (f l))).take j ++ (bitsN 0 ((f x).take (i + 1)) :: List.replicate (m - (j + 1)) 0))) := by
           show URow _ _ _
           rw [HBN.out]
           simpa using HUI.out
          go_wp2
          go_roundw
          case rel => exact ⟨i + 1, by omega, by go_num, HGI.out, HNX.out⟩
          case measure => simp [intOf]; omega
        | true =>
          obtain ⟨pre, hpre⟩ : ∃ pre, pre = (M.map (fun l => bitsN 0 (f l))).take j := ⟨_, rfl⟩
          have hpl : pre.length = j := by rw [hpre, List.length_take, List.length_map]; omega
          rw [← hpre] at HUI
          have hlo : j < (pre ++ (acc :: List.replicate (m - (j + 1)) 0)).length := by simp; omega
          have c5 : wr.cell? ⟨OB, j, none⟩ = some (.int .u64 (acc : Int)) := by
           rw [HUI.out.cell hlo]
           simp [List.getElem_append, hpl]
          have f5 := HUI.out.frozen j
          have hpw : (2 : Nat) ^ i < 18446744073709551616 := by
           have : (2 : Nat) ^ i < 2 ^ 64 := Nat.pow_lt_pow_right (by decide) (by omega)
           exact this
          have hwr : IntKind.u64.wrap ((2 : Int) ^ i) = ((2 ^ i : Nat) : Int) := by
           have h2 : ((2 : Int) ^ i) = ((2 ^ i : Nat) : Int) := by simp
           rw [h2]
           generalize 2 ^ i = x at hpw
           rw [IntKind.wrap_u64]
           omega
          have hbt : bits .or .u64 (acc : Int) ((2 ^ i : Nat) : Int) = ((acc ||| 2 ^ i : Nat) : Int) := u64_or_nat _ _ hacl hpw
          obtain ⟨y, hy⟩ : ∃ y, y = acc ||| 2 ^ i := ⟨_, rfl⟩
          rw [← hy] at hbt
          have hbt2 : bits .or .u64 (acc : Int) ((2 : Int) ^ i) = (y : Int) := by rw [← hbt]; simp
          obtain ⟨w6, hw6⟩ : ∃ w6, w6 = (wr.setCell ⟨OB, j, none⟩ (.int .u64 (y : Int))).drew := ⟨_, rfl⟩
          have HNX : Hid (wO.grownBy w6 (some OB) ∧ URow w6 OB ((M.map (fun l => bitsN 0 (f l))).take j ++ (bitsN 0 ((f x).take (i + 1)) :: List.replicate (m - (j + 1)) 0))) := by
           rw [hw6, HBN.out, if_pos rfl, ← hy, ← hpre]
           have hbd := (Below.refl (wr.setCell ⟨OB, j, none⟩ (.int .u64 (y : Int))).heap.size (wr.setCell ⟨OB, j, none⟩ (.int .u64 (y : Int)))).drew
           refine ⟨grown_all (grown_put _ HGI.out) (grown_none hbd _), ?_⟩
           have h1 := HUI.out.set j y
           rw [List.set_append_right _ _ (by omega), hpl, Nat.sub_self, List.set_cons_zero] at h1
           exact h1.later hbd
          clear hlo hpre hpl hpw hy hbt
          go_upto_region 23 with fail
          go_region
          rw [← hw6]
          clear hw6 hbt2 hwr c5 f5 a1 a2 a3
          go_wp2
          go_roundw
          case rel => exact ⟨i + 1, by omega, by go_num, HNX.out.1, HNX.out.2⟩
          case measure => simp [intOf]; omega
       ·have HNX : Hid (URow wr OB ((M.map (fun l => bitsN 0 (f l))).take (j + 1) ++ List.replicate (m - (j + 1)) 0)) := by
         have h1 := HUI.out
         have hin : (f x).take i = f x := List.take_of_length_le (by rw [HFL.out]; omega)
         rw [hin, HXJ.out] at h1
         show URow _ _ _
         rw [take_snoc _ j (by rw [List.length_map]; exact hjM), List.append_assoc]
         simpa using h1
        go_wp2
        go_roundw
        case rel => exact ⟨j + 1, by omega, by go_num, HGI.out, HNX.out⟩
        case measure => simp [intOf]; omega
     ·obtain ⟨bm, hbm⟩ : ∃ bm, bm = wr.heap.size := ⟨_, rfl⟩
      obtain ⟨w7, hw7⟩ : ∃ w7, w7 = wr.alloc (.cells #[.int .i64 (K : Int), .slice a9 m c9, .slice (some ⟨OB, 0, none⟩) m m] 100) := ⟨_, rfl⟩
      have HF : Hid (SitP K xs w (.returned (.tuple #[.pointer (some ⟨bm, 0, none⟩), .bool true])) w7) := by
       have hb7 : Below wr.heap.size wr w7 := by rw [hw7]; exact (Below.refl _ wr).alloc (Nat.le_refl _) _
       have hbO : Below w.heap.size w wO := HB5.out.trans (HBO.out.mono HB5.out.size)
       have hbr : Below w.heap.size w wr := hbO.grown HG.out hbO.size (fun k e => by cases e; rw [HOB.out]; exact HB5.out.size)
       have hu := HUR.out
       rw [show m - j = 0 by omega, List.take_of_length_le (by rw [List.length_map, ← HMM.out.1]; omega)] at hu
       simp only [List.replicate_zero, List.append_nil] at hu
       have hn9 : NxW wr K (.slice a9 m c9) N := (HN9.out.later HBO.out).kept HG.out HUO.out (by decide) (by decide)
       refine ⟨hbr.trans (hb7.mono hbr.size), .inl ⟨bm, OB, .slice a9 m c9, Ms, nxs, M, N, M.map (fun l => bitsN 0 (f l)), rfl, ?_, hn9.later hb7, hu.later hb7, by rw [← HN.out]; exact HMN.out.1, by rw [← HN.out]; exact HMN.out.2.1, HSP1.out, by rw [← HN.out]; exact HMP.out, HMM.out.2.1, HMM.out.2.2, by rw [HFF.out]⟩⟩
       rw [← HMM.out.1, hw7, hbm]
       exact heap_alloc_new wr _
      go_wp2
      rw [← hbm, ← hw7]
      go_ret2
      exact HF.out
   ·have HTM : Hid (SitF K xs) := .inr ⟨Ms, nxs, by rw [← HN.out]; exact HMN.out.1, by rw [← HN.out]; exact HMN.out.2.1, HSP1.out, by rw [← HN.out]; exact htm⟩
    clear htm
    go_wp2
    go_ret2
    exact ⟨HB5.out, .inr ⟨rfl, HTM.out⟩⟩
end Go.Proofs.YtclogekfdmikpaaDoor

/- The walk of apart: of each state a text of its kind, and of the kinds of its next ones. -/
namespace Go.Proofs.YtclogekfdmikpaaDoor
open Go.RowKit Go.Shelf Go.Maps
set_option linter.unusedVariables false
set_option linter.unusedSimpArgs false

structure MchR (w : World) (K bm : Nat) (v9 : Value) (ob : Nat) (nx : List (List Nat)) (ou : List Nat) : Prop where
 blk : w.heap[bm]? = some (.cells #[.int .i64 (K : Int), v9, .slice (some ⟨ob, 0, none⟩) ou.length ou.length] 100)
 nxw : NxW w K v9 nx
 our : URow w ob ou
theorem MchR.later {w w' : World} {K bm ob : Nat} {v9 : Value} {nx : List (List Nat)} {ou : List Nat} (h : MchR w K bm v9 ob nx ou) (hb : Below w.heap.size w w') : MchR w' K bm v9 ob nx ou :=
 ⟨(hb.block bm (Array.getElem?_eq_some_iff.1 h.blk).1).trans h.blk, h.nxw.later hb, h.our.later hb⟩
def sv (ts : List (List Nat)) : List Value := ts.map (fun t => Value.string (tS t))
theorem tS_nil : tS [] = ⟨#[]⟩ := rfl
theorem made_str (n : Nat) : (madeCells (Value.string ⟨#[]⟩).cells (n * 1)) = (sv (List.replicate n [])).toArray := by
 apply Array.ext'
 rw [Nat.mul_one]
 refine (made_one (.string ⟨#[]⟩) n).trans ?_
 simp [sv, tS_nil]
theorem info_str : (Tryd.prog.info? 9).map (fun i => (i.zero, i.size, i.bytes)) = some (some (.string ⟨#[]⟩), 1, 16) := by kernel_rfl
theorem make_s (n : Nat) (hn : n ≤ 1000000) (W : World) : (Instr.makeSlice 22 (.int .i64 (n : Int)) (.int .i64 (n : Int))).run Tryd.prog W = .ok (.slice (some ⟨W.heap.size, 0, none⟩) n n) (W.alloc (.cells (sv (List.replicate n [])).toArray 9)) := by
 obtain ⟨i0, hi, hz0, hz1, hz2⟩ := info_parts info_str
 have := run_make (P := Tryd.prog) W 22 9 i0 _ Tryd.underlying22 hi hz0 .i64 .i64 (n : Int) (n : Int) (by omega) (by omega) (by rw [hz2]; omega) (by omega)
 rw [show ((n : Int)).toNat = n by omega, hz1, made_str] at this
 exact this
def SRow (w : World) (b : Nat) (ts : List (List Nat)) : Prop := w.heap[b]? = some (.cells (sv ts).toArray 9)
theorem SRow.cell {w : World} {b : Nat} {l : List (List Nat)} (h : SRow w b l) {i : Nat} (hi : i < l.length) : w.cell? ⟨b, i, none⟩ = some (.string (tS l[i])) := by
 rw [cell_of_row w b i _ _ _ h]
 simp [sv, hi]
theorem SRow.frozen {w : World} {b : Nat} {l : List (List Nat)} (h : SRow w b l) (i : Nat) : w.frozen? ⟨b, i, none⟩ = false := Lib.frozen_of_heap h i
theorem SRow.set {w : World} {b : Nat} {l : List (List Nat)} (h : SRow w b l) (i : Nat) (x : List Nat) : SRow (w.setCell ⟨b, i, none⟩ (.string (tS x))) b (l.set i x) := by
 unfold SRow
 rw [heap_setCell_same w b i _ _ _ h]
 simp [sv, List.map_set]
theorem SRow.later {w w' : World} {b : Nat} {l : List (List Nat)} (h : SRow w b l) (hb : Below w.heap.size w w') : SRow w' b l := (hb.block b (Array.getElem?_eq_some_iff.1 h).1).trans h
theorem SRow.lt {w : World} {b : Nat} {l : List (List Nat)} (h : SRow w b l) : b < w.heap.size := (Array.getElem?_eq_some_iff.1 h).1
theorem SRow.grown {w w' : World} {b g : Nat} {l : List (List Nat)} (h : SRow w b l) (hg : w.grownBy w' (some g)) (hne : b ≠ g) : SRow w' b l := (hg.block b h.lt (fun e => hne (Option.some.inj e))).trans h
def mix {α : Type} (n : Nat) (F R : List α) : List α := F.take n ++ R.drop n
theorem mix_len {α : Type} {n : Nat} {F R : List α} (h : R.length = F.length) : (mix n F R).length = F.length := by
 simp only [mix, List.length_append, List.length_take, List.length_drop]; omega
theorem mix_set {α : Type} {n : Nat} {F R : List α} (h : R.length = F.length) (hn : n < F.length) : (mix n F R).set n F[n] = mix (n + 1) F R := by
 have hl : (F.take n).length = n := by rw [List.length_take]; omega
 unfold mix
 rw [List.set_append_right _ _ (by rw [hl]; exact Nat.le_refl _), hl, Nat.sub_self, List.drop_eq_getElem_cons (by rw [h]; exact hn), List.set_cons_zero, take_snoc F n hn, List.append_assoc]
 rfl
theorem mix_zero {α : Type} (F R : List α) : mix 0 F R = R := by simp [mix]
theorem mix_all {α : Type} {F R : List α} (h : R.length = F.length) : mix F.length F R = F := by
 rw [mix, List.take_of_length_le (Nat.le_refl _), List.drop_eq_nil_of_le (by rw [h]; exact Nat.le_refl _), List.append_nil]
def txs (nx : List (List Nat)) (kd : List Nat) : List (List Nat) := (List.range nx.length).map (fun i => tx (keyR nx kd i))
theorem keyR_len {K : Nat} {nx : List (List Nat)} (hw : Wide K nx) (kd : List Nat) {i : Nat} (hi : i < nx.length) : (keyR nx kd i).length = K + 1 := by
 simp [keyR, List.getD_eq_getElem?_getD, hi, hw _ (List.getElem_mem hi)]
set_option maxRecDepth 100000 in
set_option maxHeartbeats 8000000 in
theorem apart_any (w : World) (K bm ob kb : Nat) (v9 : Value) (nx : List (List Nat)) (ou kd : List Nat) (hM : MchR w K bm v9 ob nx ou) (hk : IRow w kb kd) (hl : kd.length = nx.length) (hw : Wide K nx) (hn : ∀ i c, nxt nx i c < nx.length) (hK : K ≤ 24) (hL : nx.length ≤ 2000) (hb : ∀ x ∈ kd, x ≤ 2000) :
 Calls Tryd.prog 72 #[.pointer (some ⟨bm, 0, none⟩), .slice (some ⟨kb, 0, none⟩) kd.length kd.length] w fun e w' => ∃ tb, e = .returned (.slice (some ⟨tb, 0, none⟩) kd.length kd.length) ∧ SRow w' tb (txs nx kd) ∧ Below w.heap.size w w' := by
 obtain ⟨m, hm⟩ : ∃ m, m = kd.length := ⟨_, rfl⟩
 obtain ⟨q, hq⟩ : ∃ q, q = K + 1 := ⟨_, rfl⟩
 have HM : Hid (m = kd.length ∧ m = nx.length) := ⟨hm, hm.trans hl⟩
 have hmi : (m : Int) ≤ 2000 := by omega
 have hKi : (K : Int) ≤ 24 := by omega
 have hqK : (q : Int) = 1 + (K : Int) := by omega
 have hmk := make_s m (by omega)
 have hmi' := make_i q (by omega)
 obtain ⟨TB, hTB⟩ : ∃ TB, TB = w.heap.size := ⟨_, rfl⟩
 obtain ⟨wT, hwT⟩ : ∃ wT, wT = w.alloc (.cells (sv (List.replicate m [])).toArray 9) := ⟨_, rfl⟩
 obtain ⟨wA, hwA⟩ : ∃ wA, wA = wT.alloc (.cells (iv (List.replicate q 0)).toArray 3) := ⟨_, rfl⟩
 have hTs : wT.heap.size = TB + 1 := by rw [hwT, hTB]; simp
 have HBA : Hid (Below w.heap.size w wA) := by rw [hwA, hwT]; exact ((Below.refl _ w).alloc (Nat.le_refl _) _).alloc (by simp) _
 have HSR : Hid (SRow wA TB (List.replicate m [])) := by
  show SRow _ _ _
  have h1 : SRow wT TB (List.replicate m []) := by rw [hwT, hTB]; exact heap_alloc_new w _
  rw [hwA]; exact h1.later ((Below.refl _ wT).alloc (Nat.le_refl _) _)
 have HIR : Hid (IRow wA (TB + 1) (List.replicate q 0)) := by show IRow _ _ _; rw [hwA, ← hTs]; exact heap_alloc_new wT _
 have HT : Hid (TB = w.heap.size) := hTB
 have HMR : Hid (MchR w K bm v9 ob nx ou) := hM
 have HKR : Hid (IRow w kb kd) := hk
 have HWD : Hid (Wide K nx ∧ (∀ i c, nxt nx i c < nx.length) ∧ ∀ x ∈ kd, x ≤ 2000) := ⟨hw, hn, hb⟩
 have HQ : Hid (q = K + 1) := hq
 have m0 : w.cell? ⟨bm, 0, none⟩ = some (.int .i64 (K : Int)) := cell_of_row w bm 0 _ _ _ hM.blk
 have m0' : wT.cell? ⟨bm, 0, none⟩ = some (.int .i64 (K : Int)) := by rw [hwT]; exact upC ((Below.refl _ w).alloc (Nat.le_refl _) _) m0
 rw [hwT] at m0'
 rw [hqK] at hmi'
 have hqi : (q : Int) ≤ 25 := by omega
 have hq0 : 0 < (q : Int) := by omega
 clear hqK hq
 rw [← hm]
 clear hM hk hw hn hb hl hm hL
 go_enter Tryd.func72, Tryd.ntmps72
 go_upto_region 3 with fail
 rw [← hTB, ← hwT, ← hwA]
 clear hTB hwA hmk hmi' m0' m0 hwT hTs
 go_wp2
 go_loopw [22] (fun x22 wr => ∃ (k : Nat) (row : List Nat), k ≤ m ∧ x22 = .int .i64 (k : Int) ∧ row.length = q ∧ SRow wr TB (mix k (txs nx kd) (List.replicate m [])) ∧ IRow wr (TB + 1) row ∧ Below w.heap.size w wr) (fun x22 _ => m - (intOf x22).toNat)
 case atStart => exact ⟨0, _, by omega, rfl, by simp, by rw [mix_zero]; exact HSR.out, HIR.out, HBA.out⟩
 case round =>
  obtain ⟨k, row, hk, hx22, hrq, hsr, hir, hbw⟩ := hrel
  subst hx22
  have HRQ : Hid (row.length = q) := hrq
  have HSW : Hid (SRow wr TB (mix k (txs nx kd) (List.replicate m []))) := hsr
  have HIW : Hid (IRow wr (TB + 1) row) := hir
  have HBW : Hid (Below w.heap.size w wr) := hbw
  clear hrq hsr hir hbw
  have htl : (txs nx kd).length = m := by rw [HM.out.2]; simp [txs]
  have HTL : Hid ((txs nx kd).length = m) := htl
  clear htl
  by_cases hlt : k < m
  ·have hkx : k < nx.length := by rw [← HM.out.2]; exact hlt
   have hkk : k < kd.length := by rw [← HM.out.1]; exact hlt
   obtain ⟨F, hF⟩ : ∃ F, F = keyR nx kd k := ⟨_, rfl⟩
   have hFl : F.length = q := by rw [hF, HQ.out]; exact keyR_len HWD.out.1 kd hkx
   have HF : Hid (F = keyR nx kd k ∧ F.length = q ∧ ∀ n ∈ F, n ≤ 2000) := by
    refine ⟨hF, hFl, fun n hn => ?_⟩
    have hg : ∀ s, kd.getD s 0 ≤ 2000 := fun s => by
     rcases Nat.lt_or_ge s kd.length with h | h
     ·simpa [List.getD_eq_getElem?_getD, h] using HWD.out.2.2 _ (List.getElem_mem h)
     ·simp [List.getD_eq_getElem?_getD, h]
    rw [hF] at hn
    rcases List.mem_cons.1 hn with rfl | hn
    ·exact hg k
    ·obtain ⟨s, _, rfl⟩ := List.mem_map.1 hn
     exact hg s
   clear hF hFl
   have a0 := upC HBW.out (HKR.out.cell hkk)
   obtain ⟨X, hX⟩ : ∃ X, X = kd[k] := ⟨_, rfl⟩
   rw [← hX] at a0
   have hX0 : X = F[0]'(by rw [HF.out.2.1, HQ.out]; omega) := by
    have : ∀ h, F[0]'h = kd[k] := fun h => by have := HF.out.1; subst this; simp [keyR, List.getD_eq_getElem?_getD, hkk]
    rw [hX, this]
   have b0 := HIW.out.cell (i := 0) (by rw [HRQ.out, HQ.out]; omega)
   obtain ⟨y0, hy0⟩ : ∃ y0, y0 = row[0]'(by rw [HRQ.out, HQ.out]; omega) := ⟨_, rfl⟩
   rw [← hy0] at b0
   have bf := HIW.out.frozen 0
   obtain ⟨w1, hw1⟩ : ∃ w1, w1 = wr.setCell ⟨TB + 1, 0, none⟩ (.int .i64 (X : Int)) := ⟨_, rfl⟩
   have HB1 : Hid (Below w.heap.size w w1) := by rw [hw1]; exact HBW.out.setCell (p := ⟨TB + 1, 0, none⟩) (by show w.heap.size ≤ TB + 1; have := HT.out; omega) _
   have HI1 : Hid (IRow w1 (TB + 1) (mix 1 F row)) := by
    have h1 := HIW.out.set 0 X
    rw [← hw1] at h1
    have h2 := mix_set (F := F) (R := row) (n := 0) (by rw [HRQ.out, HF.out.2.1]) (by rw [HF.out.2.1, HQ.out]; omega)
    rw [mix_zero, ← hX0] at h2
    rw [h2] at h1
    exact h1
   have HS1 : Hid (SRow w1 TB (mix k (txs nx kd) (List.replicate m []))) := by
    show SRow _ _ _
    rw [hw1]
    exact HSW.out.grown (grown_cell wr (TB + 1) 0 _) (by omega)
   obtain ⟨g, cap, rb, hv, hg1, hrb⟩ := HMR.out.nxw.read hkx
   have a1 := upC HB1.out (cell_of_row w bm 1 _ _ _ HMR.out.blk)
   rw [hv, ← HM.out.2] at a1
   have a1' : w1.cell? ⟨bm, 1, none⟩ = some (.slice (some ⟨g, 0, none⟩) m cap) := a1
   have a2 := upC HB1.out hg1
   have HRB : Hid (IRow w rb nx[k] ∧ nx[k].length = K) := ⟨hrb, HWD.out.1 _ (List.getElem_mem hkx)⟩
   clear hX hX0 hy0 hv hg1 hrb a1
   go_upto_region 7 with fail
   rw [← hw1]
   clear hw1 a0 b0 bf
   go_wp2
   clear a1' a2
   go_loopw [38] (fun x38 wq => ∃ (j : Nat), j ≤ K ∧ x38 = .int .i64 (j : Int) ∧ w1.grownBy wq (some (TB + 1)) ∧ IRow wq (TB + 1) (mix (1 + j) F row)) (fun x38 _ => K - (intOf x38).toNat)
   case atStart => exact ⟨0, by omega, rfl, grown_refl _ _, HI1.out⟩
   case round =>
    obtain ⟨j, hj, hx38, hgq, hiq⟩ := hrel
    subst hx38
    have HGQ : Hid (w1.grownBy wr (some (TB + 1))) := hgq
    have HIQ : Hid (IRow wr (TB + 1) (mix (1 + j) F row)) := hiq
    have HBQ : Hid (Below w.heap.size w wr) := HB1.out.grown hgq HB1.out.size (fun j e => by cases e; have := HT.out; omega)
    clear hgq hiq
    by_cases hjl : j < K
    ·have hjr : j < nx[k].length := by rw [HRB.out.2]; exact hjl
     have a3 := upC HBQ.out (HRB.out.1.cell hjr)
     obtain ⟨s, hs⟩ : ∃ s, s = nx[k][j] := ⟨_, rfl⟩
     rw [← hs] at a3
     have hsl : s < kd.length := by
      have := HWD.out.2.1 k j
      rw [nxt_in hkx hjr] at this
      rw [hs, ← HM.out.1, HM.out.2]; exact this
     have hsi : (s : Int) < (m : Int) := by have := HM.out.1; omega
     have a4 := upC HBQ.out (HKR.out.cell hsl)
     obtain ⟨z, hz⟩ : ∃ z, z = kd[s] := ⟨_, rfl⟩
     rw [← hz] at a4
     have hjF : 1 + j < F.length := by rw [HF.out.2.1, HQ.out]; omega
     have hzF : z = F[1 + j] := by
      have : ∀ h, F[1 + j]'h = kd[s] := fun h => by
       have := HF.out.1
       subst this
       subst hs
       simp [keyR, Nat.add_comm 1 j, List.getD_eq_getElem?_getD, hkx, hsl]
      rw [hz, this]
     have hml : 1 + j < (mix (1 + j) F row).length := by rw [mix_len (by rw [HRQ.out, HF.out.2.1])]; exact hjF
     have c1 := HIQ.out.cell hml
     obtain ⟨x0, hx0⟩ : ∃ x0, x0 = (mix (1 + j) F row)[1 + j] := ⟨_, rfl⟩
     rw [← hx0] at c1
     have f1 := HIQ.out.frozen (1 + j)
     have hji : 1 + (j : Int) < (q : Int) := by have := HQ.out; omega
     obtain ⟨w2, hw2⟩ : ∃ w2, w2 = wr.setCell ⟨TB + 1, 1 + j, none⟩ (.int .i64 (z : Int)) := ⟨_, rfl⟩
     have HFF : Hid (w1.grownBy w2 (some (TB + 1)) ∧ IRow w2 (TB + 1) (mix (1 + (j + 1)) F row)) := by
      refine ⟨by rw [hw2]; exact grown_put _ HGQ.out, ?_⟩
      have h1 := HIQ.out.set (1 + j) z
      rw [← hw2] at h1
      have h2 := mix_set (F := F) (R := row) (n := 1 + j) (by rw [HRQ.out, HF.out.2.1]) hjF
      rw [← hzF] at h2
      rw [h2] at h1
      exact h1
     clear hs hsl hz hjF hzF hml hx0 hjr
     go_wp2_with fail
     rw [← hw2]
     clear hw2 c1 f1 a3 a4
     go_roundw
     case rel => exact ⟨j + 1, by omega, by go_num, HFF.out⟩
     case measure => simp [intOf]; omega
    ·obtain rfl : j = K := by omega
     have hFl := HF.out.2.1
     have HIF : Hid (IRow wr (TB + 1) F) := by
      have h1 := HIQ.out
      have h2 : 1 + j = F.length := by rw [hFl, HQ.out]; omega
      rw [h2, mix_all (by rw [HRQ.out, hFl])] at h1
      exact h1
     have hrd := HIF.out.rd
     have HC : Hid (Calls Tryd.prog 69 #[.slice (some ⟨TB + 1, 0, none⟩) q q] wr fun e w' => e = .returned (.string (tS (tx F))) ∧ Below wr.heap.size wr w') := by
      have h1 := textOf_any F (some ⟨TB + 1, 0, none⟩) q wr hrd (by rw [hFl]; omega) (fun n hn => by have := HF.out.2.2 n hn; omega)
      rw [hFl] at h1
      exact h1
     have HSQ : Hid (SRow wr TB (mix k (txs nx kd) (List.replicate m []))) := HS1.out.grown HGQ.out (by omega)
     obtain ⟨TT, hTT⟩ : ∃ TT, TT = tS (tx F) := ⟨_, rfl⟩
     have HTT : Hid (TT = tS (tx F)) := hTT
     rw [← hTT] at HC
     clear hFl hrd hTT
     go_wp2_with fail
     refine HC.out.mono ?_
     rintro e w2 ⟨rfl, hb2⟩
     have HS2 : Hid (SRow w2 TB (mix k (txs nx kd) (List.replicate m []))) := HSQ.out.later hb2
     have hml : k < (mix k (txs nx kd) (List.replicate m [])).length := by rw [mix_len (by rw [HTL.out]; simp), HTL.out]; exact hlt
     have c1 := HS2.out.cell hml
     obtain ⟨x0, hx0⟩ : ∃ x0, x0 = tS (mix k (txs nx kd) (List.replicate m []))[k] := ⟨_, rfl⟩
     rw [← hx0] at c1
     have f1 := HS2.out.frozen k
     obtain ⟨w3, hw3⟩ : ∃ w3, w3 = w2.setCell ⟨TB, k, none⟩ (.string TT) := ⟨_, rfl⟩
     have HFF : Hid (F.length = q ∧ SRow w3 TB (mix (k + 1) (txs nx kd) (List.replicate m [])) ∧ IRow w3 (TB + 1) F ∧ Below w.heap.size w w3) := by
      refine ⟨HF.out.2.1, ?_, ?_, ?_⟩
      ·have h1 := HS2.out.set k (tx F)
       rw [← HTT.out, ← hw3] at h1
       have h2 := mix_set (F := txs nx kd) (R := List.replicate m []) (n := k) (by rw [HTL.out]; simp) (by rw [HTL.out]; exact hlt)
       rw [show (txs nx kd)[k]'(by rw [HTL.out]; exact hlt) = tx F by rw [HF.out.1]; simp [txs]] at h2
       rw [h2] at h1
       exact h1
      ·rw [hw3]
       exact (HIF.out.later hb2).grown (grown_cell w2 TB k _) (by omega)
      ·rw [hw3]
       exact (HBQ.out.trans (hb2.mono HBQ.out.size)).setCell (p := ⟨TB, k, none⟩) (by show w.heap.size ≤ TB; have := HT.out; omega) _
     clear hb2 hml hx0 HC
     go_wp2_with fail
     rw [← hw3]
     clear hw3 c1 f1
     go_roundw
     case rel => exact ⟨k + 1, F, by omega, by go_num, HFF.out⟩
     case measure => simp [intOf]; omega
  ·obtain rfl : k = m := by omega
   have HFF : Hid (SRow wr TB (txs nx kd) ∧ Below w.heap.size w wr) := by
    have h1 := HSW.out
    have h2 := mix_all (F := txs nx kd) (R := List.replicate k []) (by rw [HTL.out]; simp)
    rw [HTL.out] at h2
    rw [h2] at h1
    exact ⟨h1, HBW.out⟩
   go_wp2
   go_ret
   exact ⟨TB, rfl, HFF.out⟩
end Go.Proofs.YtclogekfdmikpaaDoor

/- The walk of kinds: rounds of numbers. -/
namespace Go.Proofs.YtclogekfdmikpaaDoor
open Go.RowKit Go.Shelf Go.Maps
set_option linter.unusedVariables false
set_option linter.unusedSimpArgs false

theorem met_cnt : (l : List Nat) → (m m' : Nat) → metRow m l = some m' → m' ≤ m + l.length
 | [], m, m', h => by simp only [metRow, Option.some.injEq] at h; simp; omega
 | x :: l, m, m', h => by
   simp only [metRow] at h
   split at h
   ·have := met_cnt l m m' h; simp; omega
   ·split at h
    ·have := met_cnt l (m + 1) m' h; simp; omega
    ·simp at h
theorem num_keys {K : Nat} {nx : List (List Nat)} {kd l : List Nat} {cnt : Nat} (hw : Wide K nx) (hb : ∀ s, kd.getD s 0 ≤ 2000) (h : NumOf (txs nx kd) l cnt) : NumOf ((List.range nx.length).map (keyR nx kd)) l cnt := by
 have hm : ∀ i, ∀ n ∈ keyR nx kd i, n < 2 ^ 64 := fun i n hn => by
  rcases List.mem_cons.1 hn with rfl | hn
  ·have := hb i; omega
  ·obtain ⟨s, _, rfl⟩ := List.mem_map.1 hn
   have := hb s; omega
 refine ⟨by rw [h.len]; simp [txs], h.met, fun i j hi hj => ?_⟩
 have hi' : i < nx.length := by simpa using hi
 have hj' : j < nx.length := by simpa using hj
 rw [h.same i j (by simpa [txs] using hi) (by simpa [txs] using hj)]
 simp only [txs, List.getElem_map, List.getElem_range]
 exact ⟨fun e => tx_inj _ _ (hm i) (hm j) (by rw [keyR_len hw kd hi', keyR_len hw kd hj']) e, fun e => by rw [e]⟩
structure KndP (K : Nat) (nx : List (List Nat)) (ou kd : List Nat) (cnt : Nat) : Prop where
 len : kd.length = nx.length
 met : metRow 0 kd = some cnt
 out : ∀ i j, i < nx.length → j < nx.length → kd.getD i 0 = kd.getD j 0 → ou.getD i 0 = ou.getD j 0
 told : ToldBy K nx ou kd
theorem KndP.few {K : Nat} {nx : List (List Nat)} {ou kd : List Nat} {cnt : Nat} (h : KndP K nx ou kd cnt) : cnt ≤ nx.length := by have := met_cnt kd 0 cnt h.met; rw [h.len] at this; omega
theorem KndP.small {K : Nat} {nx : List (List Nat)} {ou kd : List Nat} {cnt : Nat} (h : KndP K nx ou kd cnt) : ∀ x ∈ kd, x < nx.length := fun x hx => Nat.lt_of_lt_of_le ((metRow_le kd 0 cnt h.met).2 x hx) h.few
theorem KndP.first {K : Nat} {nx : List (List Nat)} {ou kd : List Nat} {cnt : Nat} (hl : ou.length = nx.length) (h : NumOf ou kd cnt) : KndP K nx ou kd cnt := by
 refine ⟨h.len.trans hl, h.met, fun i j hi hj e => ?_, told_first hl h⟩
 have := (h.same i j (by omega) (by omega)).1 e
 simp [List.getD_eq_getElem?_getD, hl, hi, hj, this]
theorem KndP.round {K : Nat} {nx : List (List Nat)} {ou kd fd : List Nat} {cnt more : Nat} (hw : Wide K nx) (hn : ∀ i c, nxt nx i c < nx.length) (h : KndP K nx ou kd cnt) (hf : NumOf ((List.range nx.length).map (keyR nx kd)) fd more) : KndP K nx ou fd more ∧ cnt ≤ more := by
 have hfl : fd.length = nx.length := by have := hf.len; simpa using this
 refine ⟨⟨hfl, hf.met, fun i j hi hj e => h.out i j hi hj (round_finer hf hi hj e).1, told_round hw hn h.told hf⟩, ?_⟩
 obtain ⟨kc, hk⟩ := kc_of h.met
 obtain ⟨fc, hfc⟩ := kc_of hf.met
 have := finer_count hk hfc (by rw [h.len, hfl]) (fun i j hi hj e => (round_finer hf (by have := h.len; omega) (by have := h.len; omega) e).1) kd.length 0 (by omega)
 rw [hk.zero, hfc.zero] at this
 omega
theorem KndP.last {K : Nat} {nx : List (List Nat)} {ou kd fd : List Nat} {cnt : Nat} (hw : Wide K nx) (ha : AsMet nx) (hl : ou.length = nx.length) (h : KndP K nx ou kd cnt) (hf : NumOf ((List.range nx.length).map (keyR nx kd)) fd cnt) : Kinds K nx ou kd cnt :=
 ⟨hw, ha, hl, h.len, h.met, h.out, fun i j hi hj e => round_last h.len h.met hf hi hj e, h.told⟩
def KndQ (K : Nat) (nx : List (List Nat)) (ou : List Nat) (w : World) (e : Ending) (w' : World) : Prop :=
 ∃ kb kd cnt, e = .returned (.tuple #[.slice (some ⟨kb, 0, none⟩) nx.length nx.length, .int .i64 ((cnt : Nat) : Int)]) ∧ IRow w' kb kd ∧ Below w.heap.size w w' ∧ KndP K nx ou kd cnt ∧ (cnt ≤ 400 → Kinds K nx ou kd cnt)
set_option maxRecDepth 100000 in
set_option maxHeartbeats 8000000 in
theorem kinds_any (w : World) (K bm ob : Nat) (v9 : Value) (nx : List (List Nat)) (ou : List Nat) (hM : MchR w K bm v9 ob nx ou) (hl : ou.length = nx.length) (hw : Wide K nx) (ha : AsMet nx) (hK : K ≤ 24) (hL : nx.length ≤ 2000) (ho : ∀ x ∈ ou, x < 2 ^ 64) :
 Calls Tryd.prog 44 #[.pointer (some ⟨bm, 0, none⟩)] w (KndQ K nx ou w) := by
 obtain ⟨m, hm⟩ : ∃ m, m = nx.length := ⟨_, rfl⟩
 have HM : Hid (m = nx.length ∧ ou.length = m) := ⟨hm, hl.trans hm.symm⟩
 have hmi : (m : Int) ≤ 2000 := by omega
 have hn : ∀ i c, nxt nx i c < nx.length := fun i c => nxt_lt (K := K) ha (asMet_pos ha)
 have HMR : Hid (MchR w K bm v9 ob nx ou) := hM
 have HWD : Hid (Wide K nx ∧ (∀ i c, nxt nx i c < nx.length) ∧ AsMet nx ∧ nx.length ≤ 2000 ∧ K ≤ 24) := ⟨hw, hn, ha, hL, hK⟩
 have m2 : w.cell? ⟨bm, 2, none⟩ = some (.slice (some ⟨ob, 0, none⟩) ou.length ou.length) := cell_of_row w bm 2 _ _ _ hM.blk
 have HC : Hid (Calls Tryd.prog 70 #[.slice (some ⟨ob, 0, none⟩) m m] w fun e w' => ∃ b l cnt, e = .returned (.tuple #[.slice (some ⟨b, 0, none⟩) m m, .int .i64 ((cnt : Nat) : Int)]) ∧ IRow w' b l ∧ NumOf ou l cnt ∧ Below w.heap.size w w' ∧ w.heap.size ≤ b) := by
  have h1 := numsU ou (some ⟨ob, 0, none⟩) ou.length w hM.our.rd ho (by omega)
  rw [HM.out.2] at h1
  exact h1
 rw [HM.out.2] at m2
 clear hM hl hw ha hL ho hn hm
 go_enter Tryd.func44, Tryd.ntmps44
 go_wp2_with fail
 refine HC.out.mono ?_
 rintro e w1 ⟨b1, l1, c1, rfl, hi1, hnu1, hb1, _⟩
 have HI1 : Hid (IRow w1 b1 l1 ∧ KndP K nx ou l1 c1 ∧ Below w.heap.size w w1) := ⟨hi1, KndP.first (HM.out.2.trans HM.out.1) hnu1, hb1⟩
 clear hi1 hnu1 hb1 HC m2
 go_wp2_with fail
 go_loopw [4, 5, 6, 7] (fun x4 x5 x6 x7 wr => ∃ (kb : Nat) (kd : List Nat) (cnt : Nat), x4 = .slice (some ⟨kb, 0, none⟩) m m ∧ x5 = .int .i64 (cnt : Int) ∧ IRow wr kb kd ∧ KndP K nx ou kd cnt ∧ Below w.heap.size w wr) (fun _ x5 _ _ _ => 401 - (intOf x5).toNat)
 case atStart => exact ⟨b1, l1, c1, rfl, rfl, HI1.out⟩
 case round =>
  obtain ⟨kb, kd, cnt, hx4, hx5, hir, hkp, hbw⟩ := hrel
  subst hx4 hx5
  have HIW : Hid (IRow wr kb kd) := hir
  have HKP : Hid (KndP K nx ou kd cnt) := hkp
  have HBW : Hid (Below w.heap.size w wr) := hbw
  have HKL : Hid (kd.length = m) := hkp.len.trans HM.out.1.symm
  clear hir hkp hbw HI1
  by_cases hc : (cnt : Int) ≤ 400
  ·have HC : Hid (Calls Tryd.prog 72 #[.pointer (some ⟨bm, 0, none⟩), .slice (some ⟨kb, 0, none⟩) m m] wr fun e w' => ∃ tb, e = .returned (.slice (some ⟨tb, 0, none⟩) m m) ∧ SRow w' tb (txs nx kd) ∧ Below wr.heap.size wr w') := by
    have h1 := apart_any wr K bm ob kb v9 nx ou kd (HMR.out.later HBW.out) HIW.out HKP.out.len HWD.out.1 HWD.out.2.1 HWD.out.2.2.2.2 HWD.out.2.2.2.1 (fun x hx => by have h1 := HKP.out.small x hx; have h2 := HWD.out.2.2.2.1; omega)
    rw [HKL.out] at h1
    exact h1
   go_wp2_with fail
   refine HC.out.mono ?_
   rintro e w2 ⟨tb, rfl, hs2, hb2⟩
   have hg : ∀ s, kd.getD s 0 ≤ 2000 := fun s => by
    rcases Nat.lt_or_ge s kd.length with h | h
    ·have h1 := HKP.out.small _ (List.getElem_mem h)
     have h2 := HWD.out.2.2.2.1
     simp only [List.getD_eq_getElem?_getD, h, List.getElem?_eq_getElem, Option.getD_some]; omega
    ·simp [List.getD_eq_getElem?_getD, h]
   have HC2 : Hid (Calls Tryd.prog 71 #[.slice (some ⟨tb, 0, none⟩) m m] w2 fun e w' => ∃ b l c, e = .returned (.tuple #[.slice (some ⟨b, 0, none⟩) m m, .int .i64 ((c : Nat) : Int)]) ∧ IRow w' b l ∧ NumOf (txs nx kd) l c ∧ Below w2.heap.size w2 w' ∧ w2.heap.size ≤ b) := by
    have htl : (txs nx kd).length = m := by rw [HM.out.1]; simp [txs]
    have h1 := numsS (txs nx kd) (some ⟨tb, 0, none⟩) m w2 tb ⟨rfl, fun i hi => hs2.cell hi⟩ (fun x hx => by
     obtain ⟨i, hi, rfl⟩ := List.mem_map.1 hx
     have hi' : i < nx.length := by simpa using hi
     refine ⟨?_, tx_rng _ fun n hn => ?_⟩
     ·have h1 := tx_len (keyR nx kd i)
      rw [keyR_len HWD.out.1 kd hi'] at h1
      have h2 := HWD.out.2.2.2.2
      omega
     ·rcases List.mem_cons.1 hn with rfl | hn
      ·have := hg i; omega
      ·obtain ⟨s, _, rfl⟩ := List.mem_map.1 hn
       have := hg s; omega) (by rw [htl]; omega)
    rw [htl] at h1
    exact h1
   have HB2 : Hid (Below w.heap.size w w2) := HBW.out.trans (hb2.mono HBW.out.size)
   have HB2' : Hid (IRow w2 kb kd) := HIW.out.later hb2
   have HG : Hid (∀ s, kd.getD s 0 ≤ 2000) := hg
   clear hs2 hb2 hg HC
   go_wp2_with fail
   refine HC2.out.mono ?_
   rintro e w3 ⟨b3, l3, c3, rfl, hi3, hnu3, hb3, _⟩
   have hnk := num_keys HWD.out.1 HG.out hnu3
   have HR : Hid (NumOf ((List.range nx.length).map (keyR nx kd)) l3 c3) := hnk
   obtain ⟨hk3, hle⟩ := HKP.out.round HWD.out.1 HWD.out.2.1 hnk
   have HK3 : Hid (KndP K nx ou l3 c3) := hk3
   have HB3 : Hid (Below w.heap.size w w3) := HB2.out.trans (hb3.mono HB2.out.size)
   have HI3 : Hid (IRow w3 b3 l3) := hi3
   have HI3' : Hid (IRow w3 kb kd) := HB2'.out.later hb3
   clear hi3 hnu3 hb3 hnk hk3 HC2
   by_cases he : (c3 : Int) = (cnt : Int)
   ·have HE : Hid (Kinds K nx ou kd cnt) := by
     have h1 := HR.out
     rw [show c3 = cnt by omega] at h1
     exact HKP.out.last HWD.out.1 HWD.out.2.2.1 (HM.out.2.trans HM.out.1) h1
    obtain rfl : c3 = cnt := by omega
    clear he hle
    go_wp2_with fail
    go_ret2
    refine ⟨kb, kd, c3, ?_, HI3'.out, HB3.out, HKP.out, fun _ => HE.out⟩
    rw [HM.out.1]; rfl
   ·go_wp2_with fail
    go_roundw
    case rel => exact ⟨b3, l3, c3, rfl, rfl, HI3.out, HK3.out, HB3.out⟩
    case measure => simp [intOf]; omega
  ·go_wp2_with fail
   go_ret2
   refine ⟨kb, kd, cnt, ?_, HIW.out, HBW.out, HKP.out, fun h => (by omega)⟩
   rw [HM.out.1]; rfl
end Go.Proofs.YtclogekfdmikpaaDoor
