/- The walk of situations. -/
import Derived.Test.YthdeadmnicmgfaaDoorJ18
namespace Go.Proofs.YthdeadmnicmgfaaDoor
open Go.RowKit Go.Shelf Go.Maps
set_option linter.unusedVariables false
set_option linter.unusedSimpArgs false

/-- A step of an expression's spots, and its first one. -/
def stO (x : Nd × Bool) : Nat × Bool → Nat → Nat × Bool := fun y c => stepS x.2 (x.1.span []).1 (x.1.span []).2 y (Int.ofNat c)
def fiO (x : Nd × Bool) : Nat × Bool := begS (x.1.span []).1
/-- The first expressions, followed each alone. -/
def SpotsA (K : Nat) (xs : List (Nd × Bool)) (Ms : List (List (Nat × Bool))) (nxs : List (List (List Nat))) : Prop :=
  ∀ (i : Nat) x m N, xs[i]? = some x → Ms[i]? = some m → nxs[i]? = some N → SpotsP K x m N ∧ m.length ≤ 2000 ∧ ∀ y, y ∈ m → Rch K (stO x) (fiO x) y
/-- There are too many. -/
def SitF (K : Nat) (xs : List (Nd × Bool)) : Prop := (∃ x, x ∈ xs ∧ TooMany K (stO x) (fiO x)) ∨ ∃ Ms nxs, Ms.length = xs.length ∧ nxs.length = xs.length ∧ SpotsA K xs Ms nxs ∧ TooMany K (stepAll nxs) (List.replicate xs.length 0)
def uv (l : List Nat) : List Value := l.map (fun (c : Nat) => Value.int .u64 (c : Int))
/-- A row of words, a block of its own. -/
def URow (w : World) (b : Nat) (l : List Nat) : Prop := w.heap[b]? = some (.cells (uv l).toArray 56)
theorem URow.cell {w : World} {b : Nat} {l : List Nat} (h : URow w b l) {i : Nat} (hi : i < l.length) : w.cell? ⟨b, i, none⟩ = some (.int .u64 (l[i] : Int)) := by
  rw [cell_of_row w b i _ _ _ h]
  simp [uv, hi]
theorem URow.frozen {w : World} {b : Nat} {l : List Nat} (h : URow w b l) (i : Nat) : w.frozen? ⟨b, i, none⟩ = false := Lib.frozen_of_heap h i
theorem URow.set {w : World} {b : Nat} {l : List Nat} (h : URow w b l) (i x : Nat) : URow (w.setCell ⟨b, i, none⟩ (.int .u64 (x : Int))) b (l.set i x) := by
  unfold URow
  rw [heap_setCell_same w b i _ _ _ h]
  simp [uv, List.map_set]
theorem URow.later {w w' : World} {b : Nat} {l : List Nat} (h : URow w b l) (hb : Below w.heap.size w w') : URow w' b l := (hb.block b (Array.getElem?_eq_some_iff.1 h).1).trans h
theorem URow.rd {w : World} {b : Nat} {l : List Nat} (h : URow w b l) : Rd .u64 w (some ⟨b, 0, none⟩) l.length (intsN l) := by
  refine ⟨by simp [intsN], fun _ => ⟨b, 0, rfl, fun i hi => ?_⟩⟩
  rw [Nat.zero_add, cell_of_row w b i _ _ _ h]
  simp [uv, intsN, List.getD_eq_getElem?_getD, hi]
theorem bitsN_snoc : (l : List Bool) → (i : Nat) → (b : Bool) → bitsN i (l ++ [b]) = bitsN i l ||| (if b = true then 2 ^ (i + l.length) else 0)
  | [], i, b => by simp [bitsN]
  | x :: l, i, b => by
    simp only [List.cons_append, bitsN, bitsN_snoc l (i + 1) b, Nat.or_assoc, List.length_cons]
    rw [show i + 1 + l.length = i + (l.length + 1) by omega]
theorem bitsN_lt (l : List Bool) (h : l.length ≤ 64) : bitsN 0 l < 2 ^ 64 := by
  apply Nat.lt_pow_two_of_testBit
  intro p hp
  rw [Bool.eq_false_iff]
  intro hb
  obtain ⟨j, h1, h2⟩ := (bitsN_bit l 0 p).1 hb
  have := (List.getElem?_eq_some_iff.1 h2).1
  omega
theorem rch_all {K : Nat} {xs : List (Nd × Bool)} {Ms : List (List (Nat × Bool))} {nxs : List (List (List Nat))} (hl1 : Ms.length = xs.length) (hl2 : nxs.length = xs.length) (hs : SpotsA K xs Ms nxs) : ∀ x, Rch K (stepAll nxs) (List.replicate xs.length 0) x → InAll K nxs x := by
  rintro x ⟨w, hw, rfl⟩
  have hsp : ∀ i (h : i < nxs.length), ∃ M, Ms[i]? = some M ∧ ∃ X, xs[i]? = some X ∧ SpotsP K X M nxs[i] := fun i h => by
    have h1 : Ms[i]? = some (Ms[i]'(by omega)) := List.getElem?_eq_getElem _
    have h2 : xs[i]? = some (xs[i]'(by omega)) := List.getElem?_eq_getElem _
    exact ⟨_, h1, _, h2, (hs i _ _ _ h2 h1 (List.getElem?_eq_getElem h)).1⟩
  have hstep : ∀ (w : List Nat) (x : List Nat), (∀ c, c ∈ w → c < K) → InAll K nxs x → InAll K nxs (w.foldl (stepAll nxs) x) := by
    intro w
    induction w with
    | nil => exact fun x _ hx => hx
    | cons c w ih =>
      intro x hc hx
      refine ih _ (fun d hd => hc d (List.mem_cons_of_mem _ hd)) ⟨by rw [stepAll_len nxs x c hx.1]; exact hx.1, fun i h1 h2 => ?_⟩
      have h3 : i < x.length := by rw [hx.1]; exact h2
      rw [stepAll_get nxs x c i h3 h2 h1]
      obtain ⟨M, _, X, _, hp⟩ := hsp i h2
      have h4 := hx.2 i h3 h2
      have h5 : M[x[i]]? = some (M[x[i]]'(by rw [← hp.all]; exact h4)) := List.getElem?_eq_getElem _
      have h6 := hp.meet.go x[i] _ h4 h5 c (hc c List.mem_cons_self)
      have := (List.getElem?_eq_some_iff.1 h6).1
      rw [← hp.all] at this
      exact this
  refine hstep w _ hw ⟨by simp [hl2], fun i h1 h2 => ?_⟩
  obtain ⟨M, _, X, _, hp⟩ := hsp i h2
  have := (List.getElem?_eq_some_iff.1 hp.meet.one).1
  rw [← hp.all] at this
  simpa using this
theorem made_u (n : Nat) : (madeCells (Value.int .u64 0).cells (n * 1)) = (uv (List.replicate n 0)).toArray := by
  apply Array.ext'
  rw [Nat.mul_one]
  refine (made_one (.int .u64 0) n).trans ?_
  simp [uv]
theorem info_u64 : (Tryd.prog.info? 56).map (fun i => (i.zero, i.size, i.bytes)) = some (some (.int .u64 0), 1, 8) := by kernel_rfl
theorem make_u (n : Nat) (hn : n ≤ 1000000) (W : World) : (Instr.makeSlice 68 (.int .i64 (n : Int)) (.int .i64 (n : Int))).run Tryd.prog W = .ok (.slice (some ⟨W.heap.size, 0, none⟩) n n) (W.alloc (.cells (uv (List.replicate n 0)).toArray 56)) := by
  obtain ⟨i0, hi, hz0, hz1, hz2⟩ := info_parts info_u64
  have := run_make (P := Tryd.prog) W 68 56 i0 _ Tryd.underlying68 hi hz0 .i64 .i64 (n : Int) (n : Int) (by omega) (by omega) (by rw [hz2]; omega) (by omega)
  rw [show ((n : Int)).toNat = n by omega, hz1, made_u] at this
  exact this
theorem SitA.sitN {w : World} {K n SB NB CB : Nat} {sv nv : List Value} {Ms : List (List (Nat × Bool))} {nxs : List (List (List Nat))} (h : SitA w K n SB NB CB sv nv Ms nxs) (hn : Ms.length = n) : SitN w K CB nxs := by
  have hx : nxs.length = n := by rw [h.lx]; exact hn
  refine ⟨NB, by rw [hx]; exact h.cb, fun i hi => ?_⟩
  have hiv : i < nv.length := by rw [h.ln]; omega
  refine ⟨nv[i], ?_, h.nx i _ _ (List.getElem?_eq_getElem hiv) (List.getElem?_eq_getElem hi)⟩
  rw [cell_of_row w NB i _ _ _ h.nb, List.getElem?_toArray, List.getElem?_append_left hiv, List.getElem?_eq_getElem hiv]
/-- What situations leaves. -/
def SitP (K : Nat) (xs : List (Nd × Bool)) (w : World) (e : Ending) (w' : World) : Prop :=
  Below w.heap.size w w' ∧ ((∃ bm ob v9 Ms nxs met nx ou, e = .returned (.tuple #[.pointer (some ⟨bm, 0, none⟩), .bool true]) ∧ w'.heap[bm]? = some (.cells #[.int .i64 (K : Int), v9, .slice (some ⟨ob, 0, none⟩) met.length met.length] 81) ∧ NxW w' K v9 nx ∧ URow w' ob ou ∧ Ms.length = xs.length ∧ nxs.length = xs.length ∧ SpotsA K xs Ms nxs ∧ MeetP K (stepAll nxs) (List.replicate xs.length 0) met nx ∧ nx.length = met.length ∧ met.length ≤ 2000 ∧ ou = met.map (fun l => bitsN 0 (List.zipWith (fun m s => (m.getD s (0, false)).2) Ms l))) ∨
    (e = .returned (.tuple #[.pointer none, .bool false]) ∧ SitF K xs))
theorem three_0 (w : World) (a b c : Obj) : (((w.alloc a).alloc b).alloc c).heap[w.heap.size]? = some a :=
  ((((Below.refl _ (w.alloc a)).alloc (Nat.le_refl _) b).alloc (by simp) c).block w.heap.size (by simp)).trans (heap_alloc_new w a)
theorem three_1 (w : World) (a b c : Obj) : (((w.alloc a).alloc b).alloc c).heap[w.heap.size + 1]? = some b := by
  have := heap_alloc_new (w.alloc a) b
  rw [show (w.alloc a).heap.size = w.heap.size + 1 by simp] at this
  exact (((Below.refl _ ((w.alloc a).alloc b)).alloc (Nat.le_refl _) c).block (w.heap.size + 1) (by simp)).trans this
theorem three_2 (w : World) (a b c : Obj) : (((w.alloc a).alloc b).alloc c).heap[w.heap.size + 1 + 1]? = some c := by
  have := heap_alloc_new ((w.alloc a).alloc b) c
  rw [show ((w.alloc a).alloc b).heap.size = w.heap.size + 1 + 1 by simp] at this
  exact this
set_option maxRecDepth 100000 in
set_option maxHeartbeats 16000000 in
theorem sit_any (D : Nat) (K : Nat) (xs : List (Nd × Bool)) (a : Option Addr) (cp : Nat) (w : World) (hT : TabD w) (hx : XRow w.heap.size w D a xs) (hK1 : 1 ≤ K) (hK : K ≤ 24) (hl : xs.length ≤ 64) (hok : ∀ x, x ∈ xs → x.1.ok = true) :
    Calls Tryd.prog 34 #[.int .i64 (K : Int), .slice a xs.length cp] w (SitP K xs w) := by
  obtain ⟨n, hn⟩ : ∃ n, n = xs.length := ⟨_, rfl⟩
  have HN : Hid (n = xs.length) := hn
  have HXR : Hid (XRow w.heap.size w D a xs) := hx
  have HTD : Hid (TabD w) := hT
  have HOK : Hid (∀ x, x ∈ xs → x.1.ok = true) := hok
  have hni : (n : Int) ≤ 64 := by omega
  have hKi : (K : Int) ≤ 24 := by omega
  have hmf : ∀ (fn : Fn) (first cap : Array Value) (w : World), (Instr.makeFunc fn first cap).run Tryd.prog w = .ok (.func fn first cap) w := fun _ _ _ _ => rfl
  have hm1 := make_sp n (by omega)
  have hm2 := make_rw n (by omega)
  obtain ⟨SB, hSB⟩ : ∃ SB, SB = w.heap.size := ⟨_, rfl⟩
  obtain ⟨NB, hNB⟩ : ∃ NB, NB = w.heap.size + 1 := ⟨_, rfl⟩
  obtain ⟨CB, hCB⟩ : ∃ CB, CB = w.heap.size + 1 + 1 := ⟨_, rfl⟩
  obtain ⟨wA, hwA⟩ : ∃ wA, wA = ((w.alloc (.cells (List.replicate n nilV).toArray 111)).alloc (.cells (List.replicate n nilV).toArray 79)).alloc (.cells #[.slice (some ⟨NB, 0, none⟩) n n] 108) := ⟨_, rfl⟩
  have HSW : Hid (w.heap.size ≤ SB ∧ w.heap.size ≤ NB ∧ w.heap.size ≤ CB) := ⟨by omega, by omega, by omega⟩
  have HBA : Hid (Below w.heap.size w wA) := by rw [hwA]; exact (((Below.refl _ w).alloc (Nat.le_refl _) _).alloc (by simp) _).alloc (by simp; omega) _
  have HSA : Hid (SitA wA K n SB NB CB [] [] [] []) := by
    refine ⟨?_, ?_, ?_, rfl, rfl, rfl, by simp, fun i v M h => by simp at h, fun i v N h => by simp at h⟩
    · rw [hwA, hSB]; simp only [List.nil_append, List.length_nil, Nat.sub_zero]; exact three_0 w _ _ _
    · rw [hwA, hNB]; simp only [List.nil_append, List.length_nil, Nat.sub_zero]; exact three_1 w _ _ _
    · rw [hwA, hCB]; exact three_2 w _ _ _
  obtain ⟨ZR, hZR⟩ : ∃ ZR, ZR = (List.replicate n nilV).toArray := ⟨_, rfl⟩
  rw [← hZR] at hm1 hm2 hwA
  rw [← hn]
  clear hT hx hok hl hn hZR
  go_enter Tryd.func34, Tryd.ntmps34
  go_upto_region 3 with fail
  rw [← hCB, ← hNB, ← hSB, ← hwA]
  clear hCB hNB hSB hwA hm1 hm2
  go_wp2
  go_loopw [29] (fun x29 wr => ∃ (k : Nat) (sv nv : List Value) (Ms : List (List (Nat × Bool))) (nxs : List (List (List Nat))), k ≤ n ∧ x29 = .int .i64 (k : Int) ∧ Ms.length = k ∧ SitA wr K n SB NB CB sv nv Ms nxs ∧ SpotsA K (xs.take k) Ms nxs ∧ Below w.heap.size w wr) (fun x29 _ => n - (intOf x29).toNat)
  case atStart => exact ⟨0, [], [], [], [], by omega, rfl, rfl, HSA.out, fun i x m N h => by simp at h, HBA.out⟩
  case round =>
    obtain ⟨k, sv, nv, Ms, nxs, hk, hx29, hmk, hsa, hspa, hbw⟩ := hrel
    subst hx29
    have HMK : Hid (Ms.length = k) := hmk
    have HSA1 : Hid (SitA wr K n SB NB CB sv nv Ms nxs) := hsa
    have HSP : Hid (SpotsA K (xs.take k) Ms nxs) := hspa
    have HBW : Hid (Below w.heap.size w wr) := hbw
    clear hmk hsa hspa hbw
    by_cases hlt : k < n
    · have hkn : k < xs.length := by rw [← HN.out]; exact hlt
      obtain ⟨b, off, hpa, hks⟩ := HXR.out (by omega)
      obtain ⟨us, hin, hcs, hcb⟩ := hks k hkn
      subst hpa
      obtain ⟨xa, xc, ya, yc, rfl⟩ := hin.three
      have c0 := upC HBW.out (hcs 0 _ rfl)
      have c1 := upC HBW.out (hcs 1 _ rfl)
      have c2 := upC HBW.out (hcs 2 _ rfl)
      have c3 := upC HBW.out hcb
      rw [Nat.add_zero] at c0
      obtain ⟨X, hX⟩ : ∃ X, X = xs[k] := ⟨_, rfl⟩
      have HXK : Hid (xs[k]? = some X) := by show _ = _; rw [hX]; exact List.getElem?_eq_getElem hkn
      have HOX : Hid (X.1.ok = true) := by rw [hX]; exact HOK.out _ (List.getElem_mem hkn)
      rw [← hX] at hin c0 c1 c2 c3
      obtain ⟨xo, hxo⟩ : ∃ xo, xo = X.1.op := ⟨_, rfl⟩
      obtain ⟨xn, hxn⟩ : ∃ xn, xn = X.1.cl.length := ⟨_, rfl⟩
      obtain ⟨xk, hxk⟩ : ∃ xk, xk = (toL X.1.kids).length := ⟨_, rfl⟩
      obtain ⟨xw, hxw⟩ : ∃ xw, xw = X.2 := ⟨_, rfl⟩
      have HXW : Hid (xw = X.2) := hxw
      obtain ⟨W1, hW1⟩ : ∃ W1, W1 = wr.alloc (.cells #[.int .i64 xo, .slice xa xn xc, .slice ya xk yc, .bool xw] 40) := ⟨_, rfl⟩
      obtain ⟨H, hH⟩ : ∃ H, H = wr.heap.size := ⟨_, rfl⟩
      have HBW1 : Hid (Below wr.heap.size wr W1) := by rw [hW1]; exact (Below.refl _ wr).alloc (Nat.le_refl _) _
      have HBX : Hid (W1.heap[H]? = some (.cells #[.int .i64 xo, .slice xa xn xc, .slice ya xk yc, .bool xw] 40)) := by show _ = _; rw [hW1, hH]; exact heap_alloc_new wr _
      have HB1 : Hid (Below w.heap.size w W1) := HBW.out.trans (HBW1.out.mono HBW.out.size)
      have HPO : Hid (Calls Tryd.prog 53 #[.agg #[.int .i64 xo, .slice xa xn xc, .slice ya xk yc, .bool xw]] W1 fun e w' => ∃ bp, e = .returned (.pointer (some ⟨bp, 0, none⟩)) ∧ W1.heap.size ≤ bp ∧ PlanR w' bp (X.1.span []).1 xw (X.1.span []).2 ∧ Below W1.heap.size W1 w') := by
        rw [hxo, hxn, hxk, hxw]
        exact planOf_any D X.1 X.2 xa ya xc yc W1 HOX.out ((hin.later HB1.out D).base HB1.out.size D) (HTD.out.later HB1.out)
      rw [← hxo] at c0
      rw [← hxn] at c1
      rw [← hxk] at c2
      rw [← hxw] at c3
      have e0 : W1.cell? ⟨H, 0, none⟩ = some (.int .i64 xo) := cell_of_row W1 H 0 _ _ _ HBX.out
      have e1 : W1.cell? ⟨H, 1, none⟩ = some (.slice xa xn xc) := cell_of_row W1 H 1 _ _ _ HBX.out
      have e2 : W1.cell? ⟨H, 2, none⟩ = some (.slice ya xk yc) := cell_of_row W1 H 2 _ _ _ HBX.out
      have e3 : W1.cell? ⟨H, 3, none⟩ = some (.bool xw) := cell_of_row W1 H 3 _ _ _ HBX.out
      clear hks hcs hcb hin hX hxo hxn hxk hxw
      go_upto_region 6 with fail
      rw [← hH, ← hW1]
      clear hH hW1 c0 c1 c2 c3
      go_wp2_with fail
      refine HPO.out.mono ?_
      rintro e w2 ⟨bp, rfl, hbp, hpr, hb2⟩
      have HPR : Hid (PlanR w2 bp (X.1.span []).1 xw (X.1.span []).2) := hpr
      have HB2 : Hid (Below wr.heap.size wr w2) := HBW1.out.trans (hb2.mono HBW1.out.size)
      have HBW2 : Hid (Below w.heap.size w w2) := HBW.out.trans (HB2.out.mono HBW.out.size)
      have HSA2 : Hid (SitA w2 K n SB NB CB sv nv Ms nxs) := HSA1.out.later HB2.out
      clear hbp hpr hb2 HPO e0 e1 e2 e3
      have HBG : Hid (∀ W : World, Below w2.heap.size w2 W → Calls Tryd.prog 55 #[.pointer (some ⟨bp, 0, none⟩)] W fun e w' => e = .returned (.agg #[.int .u64 (nw (X.1.span []).1.fi 0 : Int), .int .u64 (nw (X.1.span []).1.fi 1 : Int), .int .u64 (nw (X.1.span []).1.fi 2 : Int), .int .u64 (nw (X.1.span []).1.fi 3 : Int), .int .u64 (nw (X.1.span []).1.fi 4 : Int), .int .u64 (nw (X.1.span []).1.fi 5 : Int), .int .u64 (nw (X.1.span []).1.fi 6 : Int), .bool (X.1.span []).1.em]) ∧ Below W.heap.size W w') := fun W hW => by
        obtain ⟨n0, cs, v, h1, h2⟩ := (HPR.out.later hW).at_
        exact begin_any W bp cs _ _ _ h1.blk h2
      have HME : Hid (∀ W : World, Below w2.heap.size w2 W → Calls Tryd.prog 54 #[.int .i64 (K : Int), .agg #[.int .u64 (nw (X.1.span []).1.fi 0 : Int), .int .u64 (nw (X.1.span []).1.fi 1 : Int), .int .u64 (nw (X.1.span []).1.fi 2 : Int), .int .u64 (nw (X.1.span []).1.fi 3 : Int), .int .u64 (nw (X.1.span []).1.fi 4 : Int), .int .u64 (nw (X.1.span []).1.fi 5 : Int), .int .u64 (nw (X.1.span []).1.fi 6 : Int), .bool (X.1.span []).1.em], .func (.func 56) #[] #[], .func (.func 57) #[.pointer (some ⟨bp, 0, none⟩)] #[]] W (MeetS K (stO X) (fiO X) W)) := fun W hW => by
        obtain ⟨hr1, hr2⟩ := Nd.ok_right HOX.out
        have h1 := HPR.out.later hW
        rw [HXW.out] at h1
        exact meetS_any W bp (X.1.span []).1 X.2 (X.1.span []).2 K hK1 hK (HTD.out.later (HBW2.out.trans (hW.mono HBW2.out.size))) h1 (spot_bd X.1 X.2 hr1 hr2)
      have HD : Hid (Below w2.heap.size w2 w2.drew) := (Below.refl _ _).drew
      obtain ⟨fi, hfi⟩ : ∃ fi, fi = (X.1.span []).1.fi := ⟨_, rfl⟩
      obtain ⟨em, hem⟩ : ∃ em, em = (X.1.span []).1.em := ⟨_, rfl⟩
      rw [← hfi, ← hem] at HBG HME
      clear hfi hem
      go_upto_region 7 with fail
      go_cut [11] from 36 to 51 (fun x11 wx => Below w.heap.size w wx ∧ ((∃ M N v8 v9, x11 = .bool true ∧ SpotsP K X M N ∧ M.length ≤ 2000 ∧ (∀ y, y ∈ M → Rch K (stO X) (fiO X) y) ∧ SitA wx K n SB NB CB (sv ++ [v8]) (nv ++ [v9]) (Ms ++ [M]) (nxs ++ [N])) ∨ (x11 = .bool false ∧ TooMany K (stO X) (fiO X))))
      case first =>
        refine wp_region_noPanic ?_
        refine wp_region_held_drew (S := (fun w' => w'.heap[CB]? = some (.cells #[.slice (some ⟨NB, 0, none⟩) n n] 108))) (by kernel_rfl) HSA2.out.cb (fun hHeld => ?_)
        refine wpAnyH_take (i := 0) (v := ?_) rfl (by kernel_rfl) (by kernel_rfl) (by kernel_rfl) (fun _ _ _ h => h) (Or.inl ⟨by rfl, ?_⟩) (by assumption) ?_
        rotate_left
        · intro w hSw; have c_cb : w.cell? ⟨CB, 0, none⟩ = some (.slice (some ⟨NB, 0, none⟩) n n) := cell_of_row w CB 0 _ _ _ hSw; clear hSw; go_simp; try with_reducible rfl
        try simp only [Act.put, List.setIfInBounds_toArray, List.set_cons_zero, List.set_cons_succ]
        refine wpAnyH_take (i := 1) (v := ?_) rfl (by kernel_rfl) (by kernel_rfl) (by kernel_rfl) (fun _ _ _ h => h) (Or.inl ⟨by rfl, ?_⟩) (by assumption) ?_
        rotate_left
        · intro w hSw; have c_cb : w.cell? ⟨CB, 0, none⟩ = some (.slice (some ⟨NB, 0, none⟩) n n) := cell_of_row w CB 0 _ _ _ hSw; clear hSw; go_simp; try with_reducible rfl
        try simp only [Act.put, List.setIfInBounds_toArray, List.set_cons_zero, List.set_cons_succ]
        refine wpAnyH_take (i := 3) (v := ?_) rfl (by kernel_rfl) (by kernel_rfl) (by kernel_rfl) (fun _ _ _ h => h) (Or.inl ⟨by rfl, ?_⟩) (by assumption) ?_
        rotate_left
        · intro w hSw; have c_cb : w.cell? ⟨CB, 0, none⟩ = some (.slice (some ⟨NB, 0, none⟩) n n) := cell_of_row w CB 0 _ _ _ hSw; clear hSw; go_simp; try with_reducible rfl
        try simp only [Act.put, List.setIfInBounds_toArray, List.set_cons_zero, List.set_cons_succ]
        refine wpAnyH_take (i := 4) (v := ?_) rfl (by kernel_rfl) (by kernel_rfl) (by kernel_rfl) (fun _ _ _ h => h) (Or.inl ⟨by rfl, ?_⟩) (by assumption) ?_
        rotate_left
        · intro w hSw; have c_cb : w.cell? ⟨CB, 0, none⟩ = some (.slice (some ⟨NB, 0, none⟩) n n) := cell_of_row w CB 0 _ _ _ hSw; clear hSw; go_simp; try with_reducible rfl
        try simp only [Act.put, List.setIfInBounds_toArray, List.set_cons_zero, List.set_cons_succ]
        refine wpAnyH_take (i := 5) (v := ?_) rfl (by kernel_rfl) (by kernel_rfl) (by kernel_rfl) (fun _ _ _ h => h) (Or.inl ⟨by rfl, ?_⟩) (by assumption) ?_
        rotate_left
        · intro w hSw; have c_cb : w.cell? ⟨CB, 0, none⟩ = some (.slice (some ⟨NB, 0, none⟩) n n) := cell_of_row w CB 0 _ _ _ hSw; clear hSw; go_simp; try with_reducible rfl
        try simp only [Act.put, List.setIfInBounds_toArray, List.set_cons_zero, List.set_cons_succ]
        refine wpAnyH_take (i := 7) (v := ?_) rfl (by kernel_rfl) (by kernel_rfl) (by kernel_rfl) (fun _ _ _ h => h) (Or.inl ⟨by rfl, ?_⟩) (by assumption) ?_
        rotate_left
        · intro w hSw; have c_cb : w.cell? ⟨CB, 0, none⟩ = some (.slice (some ⟨NB, 0, none⟩) n n) := cell_of_row w CB 0 _ _ _ hSw; clear hSw; go_simp; try with_reducible rfl
        try simp only [Act.put, List.setIfInBounds_toArray, List.set_cons_zero, List.set_cons_succ]
        refine wpAnyH_take (i := 2) (v := ?_) rfl (by kernel_rfl) (by kernel_rfl) (by kernel_rfl) (fun _ _ _ h => h) (Or.inl ⟨by rfl, ?_⟩) (by assumption) ?_
        rotate_left
        · intro w hSw; have c_cb : w.cell? ⟨CB, 0, none⟩ = some (.slice (some ⟨NB, 0, none⟩) n n) := cell_of_row w CB 0 _ _ _ hSw; clear hSw; go_simp; try with_reducible rfl
        try simp only [Act.put, List.setIfInBounds_toArray, List.set_cons_zero, List.set_cons_succ]
        refine wpAnyH_take (i := 8) (v := ?_) rfl (by kernel_rfl) (by kernel_rfl) (by kernel_rfl) (fun _ _ _ h => h) (Or.inl ⟨by rfl, ?_⟩) (by assumption) ?_
        rotate_left
        · intro w hSw; have c_cb : w.cell? ⟨CB, 0, none⟩ = some (.slice (some ⟨NB, 0, none⟩) n n) := cell_of_row w CB 0 _ _ _ hSw; clear hSw; go_simp; try with_reducible rfl
        try simp only [Act.put, List.setIfInBounds_toArray, List.set_cons_zero, List.set_cons_succ]
        refine wpAnyH_ready (rs := [6]) (by kernel_rfl) (by simp) ?_
        refine AllReadyH.cons rfl (fun KK hK => ?_) AllReadyH.nil
        go_simp
        refine (HBG.out _ HD.out).mono ?_
        rintro e w3 ⟨rfl, hb3⟩
        have HB3 : Hid (Below w2.heap.size w2 w3) := HD.out.trans (hb3.mono HD.out.size)
        go_simp
        refine hK.out _ _ (HSA2.out.later HB3.out).cb (fun hHeld => ?_)
        clear hK KK hb3
        try simp only [Act.put, List.setIfInBounds_toArray, List.set_cons_zero, List.set_cons_succ]
        refine wpAnyH_ready (rs := [9]) (by kernel_rfl) (by simp) ?_
        refine AllReadyH.cons rfl (fun KK hK => ?_) AllReadyH.nil
        go_simp
        refine (HME.out _ HB3.out).mono ?_
        rintro e w4 ⟨hb4, hor⟩
        have HB4 : Hid (Below w2.heap.size w2 w4) := HB3.out.trans (hb4.mono HB3.out.size)
        have HBW4 : Hid (Below w.heap.size w w4) := HBW2.out.trans (HB4.out.mono HBW2.out.size)
        have HSA4 : Hid (SitA w4 K n SB NB CB sv nv Ms nxs) := HSA2.out.later HB4.out
        clear hb4
        rcases hor with ⟨M, N, v8, v9, rfl, hmp, hlen, h2000, hrch, hown8, hnx9⟩ | ⟨rfl, htm⟩
        · obtain ⟨a8, c8, hv8⟩ := own_sl1 hown8
          obtain ⟨m8, hm8⟩ : ∃ m8, m8 = M.length := ⟨_, rfl⟩
          rw [← hm8] at hv8
          subst hv8
          obtain ⟨m9, hm9⟩ : ∃ m9, m9 = N.length := ⟨_, rfl⟩
          obtain ⟨a9, c9, hv9⟩ : ∃ a9 c9, v9 = .slice a9 m9 c9 := by
            obtain ⟨bs, _, h2, _⟩ := hnx9
            rw [hm9]
            exact own_sl1 h2
          subst hv9
          have hS4 := HSA4.out
          have hsl : (sv ++ List.replicate (n - Ms.length) nilV)[k]? = some nilV := by
            rw [List.getElem?_append_right (by rw [hS4.ls, HMK.out]; exact Nat.le_refl _), hS4.ls, HMK.out, Nat.sub_self, List.getElem?_replicate, if_pos (by omega)]
          have hnl : (nv ++ List.replicate (n - Ms.length) nilV)[k]? = some nilV := by
            rw [List.getElem?_append_right (by rw [hS4.ln, HMK.out]; exact Nat.le_refl _), hS4.ln, HMK.out, Nat.sub_self, List.getElem?_replicate, if_pos (by omega)]
          have s1 : w4.cell? ⟨SB, k, none⟩ = some (.slice none 0 0) := by rw [cell_of_row w4 SB k _ _ _ hS4.sb, List.getElem?_toArray]; exact hsl
          have s2 : w4.frozen? ⟨SB, k, none⟩ = false := Lib.frozen_of_heap hS4.sb k
          have hSN : SB ≠ NB := ne_ty hS4.sb hS4.nb (by decide)
          have hSC : CB ≠ SB := ne_ty hS4.cb hS4.sb (by decide)
          have hNC : CB ≠ NB := ne_ty hS4.cb hS4.nb (by decide)
          have n5 := ((grown_cell w4 SB k (Value.slice a8 m8 c8)).block NB (Array.getElem?_eq_some_iff.1 hS4.nb).1 (fun e => hSN (Option.some.inj e).symm)).trans hS4.nb
          have t1 : (w4.setCell ⟨SB, k, none⟩ (Value.slice a8 m8 c8)).cell? ⟨NB, k, none⟩ = some (.slice none 0 0) := by rw [cell_of_row _ NB k _ _ _ n5, List.getElem?_toArray]; exact hnl
          have t2 : (w4.setCell ⟨SB, k, none⟩ (Value.slice a8 m8 c8)).frozen? ⟨NB, k, none⟩ = false := Lib.frozen_of_heap n5 k
          have HC5 : Hid ((w4.setCell ⟨SB, k, none⟩ (Value.slice a8 m8 c8)).heap[CB]? = some (.cells #[.slice (some ⟨NB, 0, none⟩) n n] 108)) := ((grown_cell w4 SB k (Value.slice a8 m8 c8)).block CB (Array.getElem?_eq_some_iff.1 hS4.cb).1 (fun e => hSC (Option.some.inj e))).trans hS4.cb
          have HC6 : Hid (((w4.setCell ⟨SB, k, none⟩ (Value.slice a8 m8 c8)).setCell ⟨NB, k, none⟩ (Value.slice a9 m9 c9)).heap[CB]? = some (.cells #[.slice (some ⟨NB, 0, none⟩) n n] 108)) := ((grown_cell (w4.setCell ⟨SB, k, none⟩ (Value.slice a8 m8 c8)) NB k (Value.slice a9 m9 c9)).block CB (Array.getElem?_eq_some_iff.1 HC5.out).1 (fun e => hNC (Option.some.inj e))).trans HC5.out
          have HB6 : Hid (Below w.heap.size w ((w4.setCell ⟨SB, k, none⟩ (Value.slice a8 m8 c8)).setCell ⟨NB, k, none⟩ (Value.slice a9 m9 c9))) := (HBW4.out.setCell (p := ⟨SB, k, none⟩) HSW.out.1 _).setCell (p := ⟨NB, k, none⟩) HSW.out.2.1 _
          have HFS : Hid (SpotsP K X M N ∧ M.length ≤ 2000 ∧ (∀ y, y ∈ M → Rch K (stO X) (fiO X) y) ∧ SitA ((w4.setCell ⟨SB, k, none⟩ (Value.slice a8 m8 c8)).setCell ⟨NB, k, none⟩ (Value.slice a9 m9 c9)) K n SB NB CB (sv ++ [Value.slice a8 m8 c8]) (nv ++ [Value.slice a9 m9 c9]) (Ms ++ [M]) (nxs ++ [N])) := by
            have h1 := hS4.step (by rw [HMK.out]; exact hlt) ⟨_, hown8⟩ hnx9.w
            rw [HMK.out] at h1
            exact ⟨⟨hmp, hlen⟩, h2000, hrch, h1⟩
          clear hsl hnl hSN hSC hNC n5 hS4 hmp hlen h2000 hrch hown8 hnx9 hm8 hm9
          go_simp
          refine hK.out _ _ HSA4.out.cb (fun hHeld => ?_)
          clear hK KK
          try simp only [Act.put, List.setIfInBounds_toArray, List.set_cons_zero, List.set_cons_succ]
          refine wpAnyH_take (i := 10) (v := ?_) rfl (by kernel_rfl) (by kernel_rfl) (by kernel_rfl) (fun _ _ _ h => h) (Or.inl ⟨by rfl, ?_⟩) (by assumption) ?_
          rotate_left
          · intro w hSw; have c_cb : w.cell? ⟨CB, 0, none⟩ = some (.slice (some ⟨NB, 0, none⟩) n n) := cell_of_row w CB 0 _ _ _ hSw; clear hSw; go_simp; try with_reducible rfl
          try simp only [Act.put, List.setIfInBounds_toArray, List.set_cons_zero, List.set_cons_succ]
          refine wpAnyH_take (i := 11) (v := ?_) rfl (by kernel_rfl) (by kernel_rfl) (by kernel_rfl) (fun _ _ _ h => h) (Or.inl ⟨by rfl, ?_⟩) (by assumption) ?_
          rotate_left
          · intro w hSw; have c_cb : w.cell? ⟨CB, 0, none⟩ = some (.slice (some ⟨NB, 0, none⟩) n n) := cell_of_row w CB 0 _ _ _ hSw; clear hSw; go_simp; try with_reducible rfl
          try simp only [Act.put, List.setIfInBounds_toArray, List.set_cons_zero, List.set_cons_succ]
          refine wpAnyH_take (i := 12) (v := ?_) rfl (by kernel_rfl) (by kernel_rfl) (by kernel_rfl) (fun _ _ _ h => h) (Or.inl ⟨by rfl, ?_⟩) (by assumption) ?_
          rotate_left
          · intro w hSw; have c_cb : w.cell? ⟨CB, 0, none⟩ = some (.slice (some ⟨NB, 0, none⟩) n n) := cell_of_row w CB 0 _ _ _ hSw; clear hSw; go_simp; try with_reducible rfl
          try simp only [Act.put, List.setIfInBounds_toArray, List.set_cons_zero, List.set_cons_succ]
          refine wpAnyH_take (i := 13) (v := ?_) rfl (by kernel_rfl) (by kernel_rfl) (by kernel_rfl) (fun _ _ _ h => h) (Or.inl ⟨by rfl, ?_⟩) (by assumption) ?_
          rotate_left
          · intro w hSw; have c_cb : w.cell? ⟨CB, 0, none⟩ = some (.slice (some ⟨NB, 0, none⟩) n n) := cell_of_row w CB 0 _ _ _ hSw; clear hSw; go_simp; try with_reducible rfl
          try simp only [Act.put, List.setIfInBounds_toArray, List.set_cons_zero, List.set_cons_succ]
          refine wpAnyH_take (i := 14) (v := ?_) rfl (by kernel_rfl) (by kernel_rfl) (by kernel_rfl) (fun _ _ _ h => h) (Or.inl ⟨by rfl, ?_⟩) (by assumption) ?_
          rotate_left
          · intro w hSw; have c_cb : w.cell? ⟨CB, 0, none⟩ = some (.slice (some ⟨NB, 0, none⟩) n n) := cell_of_row w CB 0 _ _ _ hSw; clear hSw; go_simp; try with_reducible rfl
          try simp only [Act.put, List.setIfInBounds_toArray, List.set_cons_zero, List.set_cons_succ]
          refine wpAnyH_ready (rs := [15]) (by kernel_rfl) (by simp) ?_
          refine AllReadyH.cons rfl (fun KK hK => ?_) AllReadyH.nil
          go_simp
          refine hK.out _ _ HC5.out (fun hHeld => ?_)
          clear hK KK
          try simp only [Act.put, List.setIfInBounds_toArray, List.set_cons_zero, List.set_cons_succ]
          refine wpAnyH_take (i := 16) (v := ?_) rfl (by kernel_rfl) (by kernel_rfl) (by kernel_rfl) (fun _ _ _ h => h) (Or.inl ⟨by rfl, ?_⟩) (by assumption) ?_
          rotate_left
          · intro w hSw; have c_cb : w.cell? ⟨CB, 0, none⟩ = some (.slice (some ⟨NB, 0, none⟩) n n) := cell_of_row w CB 0 _ _ _ hSw; clear hSw; go_simp; try with_reducible rfl
          try simp only [Act.put, List.setIfInBounds_toArray, List.set_cons_zero, List.set_cons_succ]
          refine wpAnyH_ready (rs := [17]) (by kernel_rfl) (by simp) ?_
          refine AllReadyH.cons rfl (fun KK hK => ?_) AllReadyH.nil
          go_simp
          refine hK.out _ _ HC6.out (fun hHeld => ?_)
          clear hK KK
          try simp only [Act.put, List.setIfInBounds_toArray, List.set_cons_zero, List.set_cons_succ]
          refine wpAnyH_ready (rs := [18]) (by kernel_rfl) (by simp) ?_
          refine AllReadyH.cons rfl (fun KK hK => ?_) AllReadyH.nil
          go_simp
          refine hK.out _ _ HC6.out (fun hHeld => ?_)
          clear hK KK
          try simp only [Act.put, List.setIfInBounds_toArray, List.set_cons_zero, List.set_cons_succ]
          refine wpAnyH_done (by kernel_rfl) ?_ _
          refine NoPanic.normal ?_
          go_wp2_with fail
          go_meet
          exact ⟨HB6.out, .inl ⟨M, N, _, _, rfl, HFS.out.1, HFS.out.2.1, HFS.out.2.2.1, HFS.out.2.2.2⟩⟩
        · have HTM : Hid (TooMany K (stO X) (fiO X)) := htm
          have hS4 := HSA4.out
          have hsl : (sv ++ List.replicate (n - Ms.length) nilV)[k]? = some nilV := by
            rw [List.getElem?_append_right (by rw [hS4.ls, HMK.out]; exact Nat.le_refl _), hS4.ls, HMK.out, Nat.sub_self, List.getElem?_replicate, if_pos (by omega)]
          have hnl : (nv ++ List.replicate (n - Ms.length) nilV)[k]? = some nilV := by
            rw [List.getElem?_append_right (by rw [hS4.ln, HMK.out]; exact Nat.le_refl _), hS4.ln, HMK.out, Nat.sub_self, List.getElem?_replicate, if_pos (by omega)]
          have s1 : w4.cell? ⟨SB, k, none⟩ = some (.slice none 0 0) := by rw [cell_of_row w4 SB k _ _ _ hS4.sb, List.getElem?_toArray]; exact hsl
          have s2 : w4.frozen? ⟨SB, k, none⟩ = false := Lib.frozen_of_heap hS4.sb k
          have hSN : SB ≠ NB := ne_ty hS4.sb hS4.nb (by decide)
          have hSC : CB ≠ SB := ne_ty hS4.cb hS4.sb (by decide)
          have hNC : CB ≠ NB := ne_ty hS4.cb hS4.nb (by decide)
          have n5 := ((grown_cell w4 SB k (Value.slice none 0 0)).block NB (Array.getElem?_eq_some_iff.1 hS4.nb).1 (fun e => hSN (Option.some.inj e).symm)).trans hS4.nb
          have t1 : (w4.setCell ⟨SB, k, none⟩ (Value.slice none 0 0)).cell? ⟨NB, k, none⟩ = some (.slice none 0 0) := by rw [cell_of_row _ NB k _ _ _ n5, List.getElem?_toArray]; exact hnl
          have t2 : (w4.setCell ⟨SB, k, none⟩ (Value.slice none 0 0)).frozen? ⟨NB, k, none⟩ = false := Lib.frozen_of_heap n5 k
          have HC5 : Hid ((w4.setCell ⟨SB, k, none⟩ (Value.slice none 0 0)).heap[CB]? = some (.cells #[.slice (some ⟨NB, 0, none⟩) n n] 108)) := ((grown_cell w4 SB k (Value.slice none 0 0)).block CB (Array.getElem?_eq_some_iff.1 hS4.cb).1 (fun e => hSC (Option.some.inj e))).trans hS4.cb
          have HC6 : Hid (((w4.setCell ⟨SB, k, none⟩ (Value.slice none 0 0)).setCell ⟨NB, k, none⟩ (Value.slice none 0 0)).heap[CB]? = some (.cells #[.slice (some ⟨NB, 0, none⟩) n n] 108)) := ((grown_cell (w4.setCell ⟨SB, k, none⟩ (Value.slice none 0 0)) NB k (Value.slice none 0 0)).block CB (Array.getElem?_eq_some_iff.1 HC5.out).1 (fun e => hNC (Option.some.inj e))).trans HC5.out
          have HB6 : Hid (Below w.heap.size w ((w4.setCell ⟨SB, k, none⟩ (Value.slice none 0 0)).setCell ⟨NB, k, none⟩ (Value.slice none 0 0))) := (HBW4.out.setCell (p := ⟨SB, k, none⟩) HSW.out.1 _).setCell (p := ⟨NB, k, none⟩) HSW.out.2.1 _
          clear hsl hnl hSN hSC hNC n5 hS4 htm
          go_simp
          refine hK.out _ _ HSA4.out.cb (fun hHeld => ?_)
          clear hK KK
          try simp only [Act.put, List.setIfInBounds_toArray, List.set_cons_zero, List.set_cons_succ]
          refine wpAnyH_take (i := 10) (v := ?_) rfl (by kernel_rfl) (by kernel_rfl) (by kernel_rfl) (fun _ _ _ h => h) (Or.inl ⟨by rfl, ?_⟩) (by assumption) ?_
          rotate_left
          · intro w hSw; have c_cb : w.cell? ⟨CB, 0, none⟩ = some (.slice (some ⟨NB, 0, none⟩) n n) := cell_of_row w CB 0 _ _ _ hSw; clear hSw; go_simp; try with_reducible rfl
          try simp only [Act.put, List.setIfInBounds_toArray, List.set_cons_zero, List.set_cons_succ]
          refine wpAnyH_take (i := 11) (v := ?_) rfl (by kernel_rfl) (by kernel_rfl) (by kernel_rfl) (fun _ _ _ h => h) (Or.inl ⟨by rfl, ?_⟩) (by assumption) ?_
          rotate_left
          · intro w hSw; have c_cb : w.cell? ⟨CB, 0, none⟩ = some (.slice (some ⟨NB, 0, none⟩) n n) := cell_of_row w CB 0 _ _ _ hSw; clear hSw; go_simp; try with_reducible rfl
          try simp only [Act.put, List.setIfInBounds_toArray, List.set_cons_zero, List.set_cons_succ]
          refine wpAnyH_take (i := 12) (v := ?_) rfl (by kernel_rfl) (by kernel_rfl) (by kernel_rfl) (fun _ _ _ h => h) (Or.inl ⟨by rfl, ?_⟩) (by assumption) ?_
          rotate_left
          · intro w hSw; have c_cb : w.cell? ⟨CB, 0, none⟩ = some (.slice (some ⟨NB, 0, none⟩) n n) := cell_of_row w CB 0 _ _ _ hSw; clear hSw; go_simp; try with_reducible rfl
          try simp only [Act.put, List.setIfInBounds_toArray, List.set_cons_zero, List.set_cons_succ]
          refine wpAnyH_take (i := 13) (v := ?_) rfl (by kernel_rfl) (by kernel_rfl) (by kernel_rfl) (fun _ _ _ h => h) (Or.inl ⟨by rfl, ?_⟩) (by assumption) ?_
          rotate_left
          · intro w hSw; have c_cb : w.cell? ⟨CB, 0, none⟩ = some (.slice (some ⟨NB, 0, none⟩) n n) := cell_of_row w CB 0 _ _ _ hSw; clear hSw; go_simp; try with_reducible rfl
          try simp only [Act.put, List.setIfInBounds_toArray, List.set_cons_zero, List.set_cons_succ]
          refine wpAnyH_take (i := 14) (v := ?_) rfl (by kernel_rfl) (by kernel_rfl) (by kernel_rfl) (fun _ _ _ h => h) (Or.inl ⟨by rfl, ?_⟩) (by assumption) ?_
          rotate_left
          · intro w hSw; have c_cb : w.cell? ⟨CB, 0, none⟩ = some (.slice (some ⟨NB, 0, none⟩) n n) := cell_of_row w CB 0 _ _ _ hSw; clear hSw; go_simp; try with_reducible rfl
          try simp only [Act.put, List.setIfInBounds_toArray, List.set_cons_zero, List.set_cons_succ]
          refine wpAnyH_ready (rs := [15]) (by kernel_rfl) (by simp) ?_
          refine AllReadyH.cons rfl (fun KK hK => ?_) AllReadyH.nil
          go_simp
          refine hK.out _ _ HC5.out (fun hHeld => ?_)
          clear hK KK
          try simp only [Act.put, List.setIfInBounds_toArray, List.set_cons_zero, List.set_cons_succ]
          refine wpAnyH_take (i := 16) (v := ?_) rfl (by kernel_rfl) (by kernel_rfl) (by kernel_rfl) (fun _ _ _ h => h) (Or.inl ⟨by rfl, ?_⟩) (by assumption) ?_
          rotate_left
          · intro w hSw; have c_cb : w.cell? ⟨CB, 0, none⟩ = some (.slice (some ⟨NB, 0, none⟩) n n) := cell_of_row w CB 0 _ _ _ hSw; clear hSw; go_simp; try with_reducible rfl
          try simp only [Act.put, List.setIfInBounds_toArray, List.set_cons_zero, List.set_cons_succ]
          refine wpAnyH_ready (rs := [17]) (by kernel_rfl) (by simp) ?_
          refine AllReadyH.cons rfl (fun KK hK => ?_) AllReadyH.nil
          go_simp
          refine hK.out _ _ HC6.out (fun hHeld => ?_)
          clear hK KK
          try simp only [Act.put, List.setIfInBounds_toArray, List.set_cons_zero, List.set_cons_succ]
          refine wpAnyH_ready (rs := [18]) (by kernel_rfl) (by simp) ?_
          refine AllReadyH.cons rfl (fun KK hK => ?_) AllReadyH.nil
          go_simp
          refine hK.out _ _ HC6.out (fun hHeld => ?_)
          clear hK KK
          try simp only [Act.put, List.setIfInBounds_toArray, List.set_cons_zero, List.set_cons_succ]
          refine wpAnyH_done (by kernel_rfl) ?_ _
          refine NoPanic.normal ?_
          go_wp2_with fail
          go_meet
          exact ⟨HB6.out, .inr ⟨rfl, HTM.out⟩⟩
      case rest =>
        obtain ⟨hbx, hor⟩ := hcut
        obtain ⟨w6, hw6⟩ : ∃ W, W = wc := ⟨_, rfl⟩
        rw [← hw6] at hor hbx ⊢
        have HBX6 : Hid (Below w.heap.size w w6) := hbx
        clear hw6 HBG HME HD hbx
        rcases hor with ⟨M, N, v8, v9, rfl, hsp, h2000, hrch, hsa⟩ | ⟨rfl, htm⟩
        · have HNX : Hid (SitA w6 K n SB NB CB (sv ++ [v8]) (nv ++ [v9]) (Ms ++ [M]) (nxs ++ [N]) ∧ SpotsA K (xs.take (k + 1)) (Ms ++ [M]) (nxs ++ [N])) := by
            refine ⟨hsa, fun i x m N' h1 h2 h3 => ?_⟩
            have hlx : nxs.length = k := by rw [HSA2.out.lx]; exact HMK.out
            rw [take_snoc xs k hkn] at h1
            have hxk : xs[k] = X := by
              have := HXK.out
              rw [List.getElem?_eq_getElem hkn] at this
              exact Option.some.inj this
            rw [hxk] at h1
            have hlt1 : (xs.take k).length = k := by rw [List.length_take]; omega
            rcases snoc_get h1 with ⟨k1, k2⟩ | ⟨k1, rfl⟩
            · rcases snoc_get h2 with ⟨k3, k4⟩ | ⟨k3, rfl⟩
              · rcases snoc_get h3 with ⟨k5, k6⟩ | ⟨k5, rfl⟩
                · exact HSP.out i x m N' k2 k4 k6
                · omega
              · have := HMK.out; omega
            · rcases snoc_get h2 with ⟨k3, k4⟩ | ⟨k3, rfl⟩
              · have := HMK.out; omega
              · rcases snoc_get h3 with ⟨k5, k6⟩ | ⟨k5, rfl⟩
                · omega
                · exact ⟨hsp, h2000, hrch⟩
          clear hsp h2000 hrch hsa
          go_wp2
          go_roundw
          case rel => exact ⟨k + 1, _, _, Ms ++ [M], nxs ++ [N], by omega, by go_num, by simp [HMK.out], HNX.out.1, HNX.out.2, HBX6.out⟩
          case measure => simp [intOf]; omega
        · have HTM : Hid (SitF K xs) := .inl ⟨X, List.mem_of_getElem? HXK.out, htm⟩
          clear htm
          go_wp2
          go_ret2
          exact ⟨HBX6.out, .inr ⟨rfl, HTM.out⟩⟩
    · have hkn : k = n := by omega
      have HMN : Hid (Ms.length = n ∧ nxs.length = n ∧ sv.length = n) := ⟨by rw [HMK.out]; exact hkn, by rw [HSA1.out.lx, HMK.out]; exact hkn, by rw [HSA1.out.ls, HMK.out]; exact hkn⟩
      have HSP1 : Hid (SpotsA K xs Ms nxs) := by
        have h1 := HSP.out
        rw [List.take_of_length_le (by rw [← HN.out]; omega)] at h1
        exact h1
      have hmk := make_i n (by omega)
      obtain ⟨wL, hwL⟩ : ∃ wL, wL = wr.alloc (.cells (iv (List.replicate n 0)).toArray 3) := ⟨_, rfl⟩
      obtain ⟨b0, hb0⟩ : ∃ b0, b0 = wr.heap.size := ⟨_, rfl⟩
      have HBL : Hid (Below wr.heap.size wr wL) := by rw [hwL]; exact (Below.refl _ wr).alloc (Nat.le_refl _) _
      have HWL : Hid (Below w.heap.size w wL) := HBW.out.trans (HBL.out.mono HBW.out.size)
      have HSL : Hid (SitA wL K n SB NB CB sv nv Ms nxs) := HSA1.out.later HBL.out
      have HIB : Hid (IRow wL b0 (List.replicate n 0)) := by show IRow _ _ _; rw [hwL, hb0]; exact heap_alloc_new wr _
      have HRA : Hid (∀ x, Rch K (stepAll nxs) (List.replicate n 0) x → InAll K nxs x) := by rw [HN.out]; exact rch_all (by rw [← HN.out]; exact HMN.out.1) (by rw [← HN.out]; exact HMN.out.2.1) HSP1.out
      have HWD : Hid (∀ N, N ∈ nxs → Wide K N ∧ N.length ≤ 2000) := fun N hN => by
        obtain ⟨i, hi, rfl⟩ := List.getElem_of_mem hN
        have h1 : i < Ms.length := by have := HMN.out; omega
        have h2 : i < xs.length := by have := HMN.out; have := HN.out; omega
        obtain ⟨k1, k2, _⟩ := HSP1.out i _ _ _ (List.getElem?_eq_getElem h2) (List.getElem?_eq_getElem h1) (List.getElem?_eq_getElem hi)
        exact ⟨k1.meet.wide, by rw [k1.all]; exact k2⟩
      have HML : Hid (Calls Tryd.prog 59 #[.int .i64 (K : Int), .slice (some ⟨b0, 0, none⟩) n n, .func (.func 60) #[] #[], .func (.func 58) #[] #[.pointer (some ⟨CB, 0, none⟩)]] wL (MeetL n K (stepAll nxs) (List.replicate n 0) wL)) := by
        refine meetL_any wL n K b0 (.pointer (some ⟨CB, 0, none⟩)) (stepAll nxs) (List.replicate n 0) hK1 hK (by omega) HIB.out (fun x hx => ?_) (fun W x b c hc hW hx hi => ?_)
        · obtain ⟨k1, k2⟩ := HRA.out x hx
          refine ⟨by rw [k1]; exact HMN.out.2.1, fun e he => ?_⟩
          obtain ⟨i, hi, rfl⟩ := List.getElem_of_mem he
          have h1 := k2 i hi (by rw [← k1]; exact hi)
          have h2 := (HWD.out _ (List.getElem_mem (by rw [← k1]; exact hi : i < nxs.length))).2
          omega
        · have k1 := HRA.out x hx
          have hl : x.length = n := by rw [k1.1]; exact HMN.out.2.1
          have h1 := sit1_any W K CB b c nxs x hc hK (by omega) k1 HWD.out hi ((HSL.out.later hW).sitN HMN.out.1)
          rw [hl] at h1
          exact h1
      clear hkn
      go_wp2_with fail
      rw [← hb0, ← hwL]
      clear hb0 hwL hmk
      refine HML.out.mono ?_
      rintro e w5 ⟨hb5, hor⟩
      have HB5 : Hid (Below w.heap.size w w5) := HWL.out.trans (hb5.mono HWL.out.size)
      have HS5 : Hid (SitA w5 K n SB NB CB sv nv Ms nxs) := HSL.out.later hb5
      clear hb5 HML
      rcases hor with ⟨M, N, v8, v9, rfl, hmp, hlen, h2000, hrch, hm8, hn9⟩ | ⟨rfl, htm⟩
      · obtain ⟨m, hm⟩ : ∃ m, m = M.length := ⟨_, rfl⟩
        have HMM : Hid (m = M.length ∧ N.length = M.length ∧ M.length ≤ 2000) := ⟨hm, hlen, h2000⟩
        have HMP : Hid (MeetP K (stepAll nxs) (List.replicate n 0) M N) := hmp
        have HRM : Hid (∀ x, x ∈ M → InAll K nxs x) := fun x hx => HRA.out x (hrch x hx)
        have HM8 : Hid (NxW w5 n v8 M) := hm8.w
        have HN9 : Hid (NxW w5 K v9 N) := hn9.w
        obtain ⟨a8, c8, hv8⟩ : ∃ a8 c8, v8 = .slice a8 m c8 := by
          obtain ⟨bs, _, h2, _⟩ := hm8
          rw [hm]
          exact own_sl1 h2
        obtain ⟨a9, c9, hv9⟩ : ∃ a9 c9, v9 = .slice a9 m c9 := by
          obtain ⟨bs, _, h2, _⟩ := hn9
          rw [hm, ← hlen]
          exact own_sl1 h2
        subst hv8 hv9
        have hmi : (m : Int) ≤ 2000 := by omega
        have hmk := make_u m (by omega)
        obtain ⟨OB, hOB⟩ : ∃ OB, OB = w5.heap.size := ⟨_, rfl⟩
        obtain ⟨wO, hwO⟩ : ∃ wO, wO = w5.alloc (.cells (uv (List.replicate m 0)).toArray 56) := ⟨_, rfl⟩
        have HBO : Hid (Below w5.heap.size w5 wO) := by rw [hwO]; exact (Below.refl _ w5).alloc (Nat.le_refl _) _
        have HUO : Hid (URow wO OB (List.replicate m 0)) := by show URow _ _ _; rw [hwO, hOB]; exact heap_alloc_new w5 _
        have HOB : Hid (OB = w5.heap.size) := hOB
        obtain ⟨f, hf⟩ : ∃ f : List Nat → List Bool, f = fun l => List.zipWith (fun m s => (m.getD s (0, false)).2) Ms l := ⟨_, rfl⟩
        have HFF : Hid (f = fun l => List.zipWith (fun m s => (m.getD s (0, false)).2) Ms l) := hf
        have HUP : Hid (∀ (wz : World), wO.grownBy wz (some OB) → ∀ p v, w5.cell? p = some v → wz.cell? p = some v) := fun wz hg p v hv => by
          have hl := World.block_lt_of_cell? w5 _ hv
          refine (cell_same ?_).trans (upC HBO.out hv)
          exact hg.block _ (Nat.lt_of_lt_of_le hl HBO.out.size) (fun e => by have := Option.some.inj e; have := HOB.out; omega)
        clear hm hmp hlen h2000 hrch hm8 hn9 hf
        go_upto_region 16 with fail
        rw [← hOB, ← hwO]
        clear hOB hwO hmk
        go_wp2
        go_loopw [73] (fun x73 wz => ∃ j : Nat, j ≤ m ∧ x73 = .int .i64 (j : Int) ∧ wO.grownBy wz (some OB) ∧ URow wz OB ((M.map (fun l => bitsN 0 (f l))).take j ++ List.replicate (m - j) 0)) (fun x73 _ => m - (intOf x73).toNat)
        case atStart => exact ⟨0, by omega, rfl, grown_refl _ _, by simpa using HUO.out⟩
        case round =>
          obtain ⟨j, hj, hx73, hg, hur⟩ := hrel
          subst hx73
          have HG : Hid (wO.grownBy wr (some OB)) := hg
          have HUR : Hid (URow wr OB ((M.map (fun l => bitsN 0 (f l))).take j ++ List.replicate (m - j) 0)) := hur
          clear hg hur
          by_cases hltj : j < m
          · have hjM : j < M.length := by rw [← HMM.out.1]; exact hltj
            have hji : (j : Int) < (m : Int) := by omega
            obtain ⟨g8, cap8, rb, hv8, hg8, hrb⟩ := HM8.out.read hjM
            rw [← HMM.out.1] at hv8
            cases hv8
            obtain ⟨x, hx⟩ : ∃ x, x = M[j] := ⟨_, rfl⟩
            rw [← hx] at hrb
            have HRB : Hid (IRow w5 rb x) := hrb
            have HXI : Hid (InAll K nxs x) := by rw [hx]; exact HRM.out _ (List.getElem_mem hjM)
            have HXJ : Hid (x = M[j]) := hx
            have hxl : x.length = n := by rw [HXI.out.1]; exact HMN.out.2.1
            have HXN : Hid (x.length = n) := hxl
            have a0 := HUP.out wr HG.out _ _ hg8
            have HFL : Hid ((f x).length = n) := by show _ = n; rw [HFF.out]; simp [HMN.out.1, hxl]
            have HST : Hid (URow wr OB ((M.map (fun l => bitsN 0 (f l))).take j ++ (bitsN 0 ((f x).take 0) :: List.replicate (m - (j + 1)) 0))) := by
              have h1 := HUR.out
              rw [show m - j = (m - (j + 1)) + 1 by omega, List.replicate_succ] at h1
              show URow _ _ _
              simpa [bitsN] using h1
            clear hg8 hrb hx hxl
            go_wp2
            go_loopw [80] (fun x80 wz => ∃ i : Nat, i ≤ n ∧ x80 = .int .i64 (i : Int) ∧ wO.grownBy wz (some OB) ∧ URow wz OB ((M.map (fun l => bitsN 0 (f l))).take j ++ (bitsN 0 ((f x).take i) :: List.replicate (m - (j + 1)) 0))) (fun x80 _ => n - (intOf x80).toNat)
            case atStart => exact ⟨0, by omega, rfl, HG.out, HST.out⟩
            case round =>
              obtain ⟨i, hi, hx80, hg, hur⟩ := hrel
              subst hx80
              have HGI : Hid (wO.grownBy wr (some OB)) := hg
              have HUI : Hid (URow wr OB ((M.map (fun l => bitsN 0 (f l))).take j ++ (bitsN 0 ((f x).take i) :: List.replicate (m - (j + 1)) 0))) := hur
              clear hg hur
              by_cases hlti : i < n
              · have hix : i < x.length := by rw [HXN.out]; exact hlti
                have hiM : i < Ms.length := by rw [HMN.out.1]; exact hlti
                have hiS : i < sv.length := by rw [HMN.out.2.2]; exact hlti
                have hiN : i < nxs.length := by rw [HMN.out.2.1]; exact hlti
                have hiX : i < xs.length := by rw [← HN.out]; exact hlti
                obtain ⟨s, hs⟩ : ∃ s, s = x[i] := ⟨_, rfl⟩
                have a1 := HUP.out wr HGI.out _ _ (HRB.out.cell hix)
                rw [← hs] at a1
                have hsv : w5.cell? ⟨SB, i, none⟩ = some sv[i] := by
                  rw [cell_of_row w5 SB i _ _ _ HS5.out.sb, List.getElem?_toArray, List.getElem?_append_left hiS, List.getElem?_eq_getElem hiS]
                obtain ⟨B, hsp⟩ := HS5.out.sp i _ _ (List.getElem?_eq_getElem hiS) (List.getElem?_eq_getElem hiM)
                obtain ⟨hspp, h2k, _⟩ := HSP1.out i _ _ _ (List.getElem?_eq_getElem hiX) (List.getElem?_eq_getElem hiM) (List.getElem?_eq_getElem hiN)
                have hsM : s < Ms[i].length := by
                  rw [hs, ← hspp.all]
                  exact HXI.out.2 i hix hiN
                rcases hsp.2 with ⟨_, h0⟩ | ⟨gg, cc, cur, hvv, _, hgg, _, _, _, h7⟩
                · omega
                have a2 := HUP.out wr HGI.out _ _ (hsv.trans (by rw [hvv]))
                have hfit : w5.cell? ⟨gg, s * 8 + 7, none⟩ = some (.bool (Ms[i][s]).2) := by
                  have h8 := spFlat_get Ms[i] s 7 _ (List.getElem?_eq_getElem hsM) (by omega)
                  rw [← h7, List.getElem?_take, if_pos (by omega), Array.getElem?_toList] at h8
                  exact (cell_of_row w5 gg (s * 8 + 7) _ _ _ hgg).trans h8
                have a3 := HUP.out wr HGI.out _ _ hfit
                obtain ⟨z, hz⟩ : ∃ z, z = (Ms[i][s]).2 := ⟨_, rfl⟩
                rw [← hz] at a3
                obtain ⟨q, hq⟩ : ∃ q, q = Ms[i].length := ⟨_, rfl⟩
                rw [← hq] at a2 hsM h2k
                have hqi : (q : Int) ≤ 2000 := by omega
                have hsi : (s : Int) < (q : Int) := by omega
                have hii : (i : Int) < (n : Int) := by omega
                have hi64 : (i : Int) < 64 := by omega
                have hfx : (f x)[i]? = some z := by
                  rw [HFF.out, List.getElem?_eq_getElem (by simp; omega), hz]
                  subst hs
                  rw [hq] at hsM
                  simp [List.getD_eq_getElem?_getD, hsM]
                have hfi : i < (f x).length := by rw [HFL.out]; exact hlti
                have HBN : Hid (bitsN 0 ((f x).take (i + 1)) = bitsN 0 ((f x).take i) ||| (if z = true then 2 ^ i else 0)) := by
                  show _ = _
                  rw [take_snoc _ i hfi, bitsN_snoc, List.length_take, Nat.zero_add, Nat.min_eq_left (by omega)]
                  rw [List.getElem?_eq_getElem hfi] at hfx
                  rw [Option.some.inj hfx]
                obtain ⟨acc, hacc⟩ : ∃ acc, acc = bitsN 0 ((f x).take i) := ⟨_, rfl⟩
                have hacl : acc < 18446744073709551616 := by rw [hacc]; exact bitsN_lt _ (by rw [List.length_take]; have := HFL.out; omega)
                rw [← hacc] at HBN HUI
                clear hs hsv hsp hspp h7 hgg hvv hfit hz hq hfx hacc
                cases z with
                | false =>
                  have HNX : Hid (URow wr OB ((M.map (fun l => bitsN 0 (f l))).take j ++ (bitsN 0 ((f x).take (i + 1)) :: List.replicate (m - (j + 1)) 0))) := by
                    show URow _ _ _
                    rw [HBN.out]
                    simpa using HUI.out
                  go_wp2
                  go_roundw
                  case rel => exact ⟨i + 1, by omega, by go_num, HGI.out, HNX.out⟩
                  case measure => simp [intOf]; omega
                | true =>
                  obtain ⟨pre, hpre⟩ : ∃ pre, pre = (M.map (fun l => bitsN 0 (f l))).take j := ⟨_, rfl⟩
                  have hpl : pre.length = j := by rw [hpre, List.length_take, List.length_map]; omega
                  rw [← hpre] at HUI
                  have hlo : j < (pre ++ (acc :: List.replicate (m - (j + 1)) 0)).length := by simp; omega
                  have c5 : wr.cell? ⟨OB, j, none⟩ = some (.int .u64 (acc : Int)) := by
                    rw [HUI.out.cell hlo]
                    simp [List.getElem_append, hpl]
                  have f5 := HUI.out.frozen j
                  have hpw : (2 : Nat) ^ i < 18446744073709551616 := by
                    have : (2 : Nat) ^ i < 2 ^ 64 := Nat.pow_lt_pow_right (by decide) (by omega)
                    exact this
                  have hwr : IntKind.u64.wrap ((2 : Int) ^ i) = ((2 ^ i : Nat) : Int) := by
                    have h2 : ((2 : Int) ^ i) = ((2 ^ i : Nat) : Int) := by simp
                    rw [h2]
                    generalize 2 ^ i = x at hpw
                    rw [IntKind.wrap_u64]
                    omega
                  have hbt : bits .or .u64 (acc : Int) ((2 ^ i : Nat) : Int) = ((acc ||| 2 ^ i : Nat) : Int) := u64_or_nat _ _ hacl hpw
                  obtain ⟨y, hy⟩ : ∃ y, y = acc ||| 2 ^ i := ⟨_, rfl⟩
                  rw [← hy] at hbt
                  have hbt2 : bits .or .u64 (acc : Int) ((2 : Int) ^ i) = (y : Int) := by rw [← hbt]; simp
                  obtain ⟨w6, hw6⟩ : ∃ w6, w6 = (wr.setCell ⟨OB, j, none⟩ (.int .u64 (y : Int))).drew := ⟨_, rfl⟩
                  have HNX : Hid (wO.grownBy w6 (some OB) ∧ URow w6 OB ((M.map (fun l => bitsN 0 (f l))).take j ++ (bitsN 0 ((f x).take (i + 1)) :: List.replicate (m - (j + 1)) 0))) := by
                    rw [hw6, HBN.out, if_pos rfl, ← hy, ← hpre]
                    have hbd := (Below.refl (wr.setCell ⟨OB, j, none⟩ (.int .u64 (y : Int))).heap.size (wr.setCell ⟨OB, j, none⟩ (.int .u64 (y : Int)))).drew
                    refine ⟨grown_all (grown_put _ HGI.out) (grown_none hbd _), ?_⟩
                    have h1 := HUI.out.set j y
                    rw [List.set_append_right _ _ (by omega), hpl, Nat.sub_self, List.set_cons_zero] at h1
                    exact h1.later hbd
                  clear hlo hpre hpl hpw hy hbt
                  go_upto_region 23 with fail
                  go_region
                  rw [← hw6]
                  clear hw6 hbt2 hwr c5 f5 a1 a2 a3
                  go_wp2
                  go_roundw
                  case rel => exact ⟨i + 1, by omega, by go_num, HNX.out.1, HNX.out.2⟩
                  case measure => simp [intOf]; omega
              · have HNX : Hid (URow wr OB ((M.map (fun l => bitsN 0 (f l))).take (j + 1) ++ List.replicate (m - (j + 1)) 0)) := by
                  have h1 := HUI.out
                  have hin : (f x).take i = f x := List.take_of_length_le (by rw [HFL.out]; omega)
                  rw [hin, HXJ.out] at h1
                  show URow _ _ _
                  rw [take_snoc _ j (by rw [List.length_map]; exact hjM), List.append_assoc]
                  simpa using h1
                go_wp2
                go_roundw
                case rel => exact ⟨j + 1, by omega, by go_num, HGI.out, HNX.out⟩
                case measure => simp [intOf]; omega
          · obtain ⟨bm, hbm⟩ : ∃ bm, bm = wr.heap.size := ⟨_, rfl⟩
            obtain ⟨w7, hw7⟩ : ∃ w7, w7 = wr.alloc (.cells #[.int .i64 (K : Int), .slice a9 m c9, .slice (some ⟨OB, 0, none⟩) m m] 81) := ⟨_, rfl⟩
            have HF : Hid (SitP K xs w (.returned (.tuple #[.pointer (some ⟨bm, 0, none⟩), .bool true])) w7) := by
              have hb7 : Below wr.heap.size wr w7 := by rw [hw7]; exact (Below.refl _ wr).alloc (Nat.le_refl _) _
              have hbO : Below w.heap.size w wO := HB5.out.trans (HBO.out.mono HB5.out.size)
              have hbr : Below w.heap.size w wr := hbO.grown HG.out hbO.size (fun k e => by cases e; rw [HOB.out]; exact HB5.out.size)
              have hu := HUR.out
              rw [show m - j = 0 by omega, List.take_of_length_le (by rw [List.length_map, ← HMM.out.1]; omega)] at hu
              simp only [List.replicate_zero, List.append_nil] at hu
              have hn9 : NxW wr K (.slice a9 m c9) N := (HN9.out.later HBO.out).kept HG.out HUO.out (by decide) (by decide)
              refine ⟨hbr.trans (hb7.mono hbr.size), .inl ⟨bm, OB, .slice a9 m c9, Ms, nxs, M, N, M.map (fun l => bitsN 0 (f l)), rfl, ?_, hn9.later hb7, hu.later hb7, by rw [← HN.out]; exact HMN.out.1, by rw [← HN.out]; exact HMN.out.2.1, HSP1.out, by rw [← HN.out]; exact HMP.out, HMM.out.2.1, HMM.out.2.2, by rw [HFF.out]⟩⟩
              rw [← HMM.out.1, hw7, hbm]
              exact heap_alloc_new wr _
            go_wp2
            rw [← hbm, ← hw7]
            go_ret2
            exact HF.out
      · have HTM : Hid (SitF K xs) := .inr ⟨Ms, nxs, by rw [← HN.out]; exact HMN.out.1, by rw [← HN.out]; exact HMN.out.2.1, HSP1.out, by rw [← HN.out]; exact htm⟩
        clear htm
        go_wp2
        go_ret2
        exact ⟨HB5.out, .inr ⟨rfl, HTM.out⟩⟩
end Go.Proofs.YthdeadmnicmgfaaDoor
