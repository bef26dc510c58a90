/- In one text: DfaS, DfaF, DfaG, DfaT, DfaH, DfaU, DfaEa, DfaEb, DfaP. -/
import Derived.Test.YtclogekfdmikpaaDoorJ05
import Derived.Lib.TrailingZeros
import Derived.RangeFuncNested
import Derived.RangeFuncBound
import Derived.RangeFuncCalls
import Derived.RangeFuncLeaves
import Derived.Shelf.Abstract
import Derived.Shelf.RegionOpen
import Derived.OwnWalkIn
import Derived.TacticsInMore
import Derived.LoopNIn
import Derived.LoopIn
/- Plain mathematics of situations: all that steps lead to, numbered as met; of several expressions at once; the least machine of these; nothing of the program is named here. -/
namespace Go.Proofs.YtclogekfdmikpaaDoor
set_option linter.unusedVariables false
set_option linter.unusedSimpArgs false

theorem metAll_snoc : (rows : List (List Nat)) → (row : List Nat) → (i m N N' : Nat) → metAll i m rows = some N → i + rows.length < N → metRow N row = some N' → metAll i m (rows ++ [row]) = some N'
 | [], row, i, m, N, N', h1, h2, h3 => by
   simp only [metAll, Option.some.injEq] at h1
   subst h1
   simp only [List.nil_append, metAll]
   rw [if_pos (by simpa using h2), h3]
   rfl
 | x :: r, row, i, m, N, N', h1, h2, h3 => by
   simp only [List.cons_append, metAll] at h1 ⊢
   by_cases hi : i < m
   ·rw [if_pos hi] at h1 ⊢
    obtain ⟨m', h4, h5⟩ := Option.bind_eq_some_iff.1 h1
    rw [h4]
    exact metAll_snoc r row (i + 1) m' N N' h5 (by simp only [List.length_cons] at h2; omega) h3
   ·rw [if_neg hi] at h1; simp at h1
theorem nxt_app {nx rows : List (List Nat)} {i c : Nat} (hi : i < nx.length) : nxt (nx ++ rows) i c = nxt nx i c := by
 simp [nxt, List.getD_eq_getElem?_getD, List.getElem?_append_left hi]
theorem nxt_last {nx : List (List Nat)} {row : List Nat} {c : Nat} : nxt (nx ++ [row]) nx.length c = row.getD c 0 := by
 unfold nxt
 congr 1
 simp [List.getD_eq_getElem?_getD]
structure MeetP {S : Type} (K : Nat) (step : S → Nat → S) (first : S) (met : List S) (nx : List (List Nat)) : Prop where
 one : met[0]? = some first
 nodup : met.Nodup
 num : metAll 0 1 nx = some met.length
 wide : Wide K nx
 go : ∀ i x, i < nx.length → met[i]? = some x → ∀ c, c < K → met[nxt nx i c]? = some (step x c)
theorem meet_begin {S : Type} (K : Nat) (step : S → Nat → S) (first : S) : MeetP K step first [first] [] :=
 ⟨rfl, by simp, rfl, fun row h => by simp at h, fun i x h => by simp at h⟩
structure MidP {S : Type} (step : S → Nat → S) (x : S) (met0 met : List S) (row : List Nat) : Prop where
 pre : met0 <+: met
 nodup : met.Nodup
 num : metRow met0.length row = some met.length
 go : ∀ c, c < row.length → met[row.getD c 0]? = some (step x c)
theorem mid_begin {S : Type} {step : S → Nat → S} {x : S} {met : List S} (h : met.Nodup) : MidP step x met met [] := ⟨List.prefix_refl _, h, rfl, fun c hc => by simp at hc⟩
theorem pre_get {S : Type} {a b : List S} (h : a <+: b) {i : Nat} {x : S} (hx : a[i]? = some x) : b[i]? = some x := by
 obtain ⟨t, rfl⟩ := h
 rw [List.getElem?_append_left (List.getElem?_eq_some_iff.1 hx).1]
 exact hx
theorem mid_old {S : Type} {step : S → Nat → S} {x : S} {met0 met : List S} {row : List Nat} (h : MidP step x met0 met row) {e : Nat} (he : met[e]? = some (step x row.length)) : MidP step x met0 met (row ++ [e]) := by
 have hel := (List.getElem?_eq_some_iff.1 he).1
 refine ⟨h.pre, h.nodup, ?_, fun c hc => ?_⟩
 ·rw [metRow_app, h.num]
  simp only [Option.bind_some, metRow]
  rw [if_pos hel]
 ·rcases Nat.lt_or_ge c row.length with hc1 | hc1
  ·rw [List.getD_eq_getElem?_getD, List.getElem?_append_left hc1, ← List.getD_eq_getElem?_getD]
   exact h.go c hc1
  ·have : c = row.length := by simp only [List.length_append, List.length_cons, List.length_nil] at hc; omega
   subst this
   simpa [List.getD_eq_getElem?_getD] using he
theorem mid_new {S : Type} {step : S → Nat → S} {x : S} {met0 met : List S} {row : List Nat} (h : MidP step x met0 met row) (hn : step x row.length ∉ met) : MidP step x met0 (met ++ [step x row.length]) (row ++ [met.length]) := by
 refine ⟨h.pre.trans (List.prefix_append _ _), ?_, ?_, fun c hc => ?_⟩
 ·rw [List.nodup_append]
  exact ⟨h.nodup, by simp, fun a ha b hb => by
   rw [List.mem_singleton.1 hb]
   rintro rfl
   exact hn ha⟩
 ·rw [metRow_app, h.num]
  simp [metRow]
 ·rcases Nat.lt_or_ge c row.length with hc1 | hc1
  ·rw [List.getD_eq_getElem?_getD, List.getElem?_append_left hc1, ← List.getD_eq_getElem?_getD]
   exact pre_get (List.prefix_append _ _) (h.go c hc1)
  ·have : c = row.length := by simp only [List.length_append, List.length_cons, List.length_nil] at hc; omega
   subst this
   simp [List.getD_eq_getElem?_getD]
theorem mid_end {S : Type} {K : Nat} {step : S → Nat → S} {first x : S} {met0 met : List S} {nx : List (List Nat)} {row : List Nat} (h0 : MeetP K step first met0 nx) (hx : met0[nx.length]? = some x) (h : MidP step x met0 met row) (hr : row.length = K) : MeetP K step first met (nx ++ [row]) := by
 have hl := (List.getElem?_eq_some_iff.1 hx).1
 refine ⟨pre_get h.pre h0.one, h.nodup, metAll_snoc nx row 0 1 _ _ h0.num (by omega) h.num, fun r hm => ?_, fun i y hi hy c hc => ?_⟩
 ·rcases List.mem_append.1 hm with hm | hm
  ·exact h0.wide r hm
  ·rw [List.mem_singleton.1 hm]; exact hr
 ·have hle : met0.length ≤ met.length := h.pre.length_le
  simp only [List.length_append, List.length_cons, List.length_nil] at hi
  have hy0 : met0[i]? = some y := by
   have hi0 : i < met0.length := by omega
   have := pre_get h.pre (List.getElem?_eq_getElem hi0)
   rw [hy] at this
   rw [List.getElem?_eq_getElem hi0, this]
  rcases Nat.lt_or_ge i nx.length with hi1 | hi1
  ·rw [nxt_app hi1]
   exact pre_get h.pre (h0.go i y hi1 hy0 c hc)
  ·have : i = nx.length := by omega
   subst this
   rw [hx] at hy0
   injection hy0 with hy0
   subst hy0
   rw [nxt_last]
   exact h.go c (by omega)
theorem meet_run {S : Type} {K : Nat} {step : S → Nat → S} {first : S} {met : List S} {nx : List (List Nat)} (h : MeetP K step first met nx) (hl : nx.length = met.length) : (w : List Nat) → (∀ c, c ∈ w → c < K) → (i : Nat) → (x : S) → met[i]? = some x → met[runM nx i w]? = some (w.foldl step x)
 | [], _, i, x, hx => hx
 | c :: w, hw, i, x, hx => by
   rw [runM_cons, List.foldl_cons]
   refine meet_run h hl w (fun d hd => hw d (List.mem_cons_of_mem _ hd)) _ _ ?_
   exact h.go i x (by rw [hl]; exact (List.getElem?_eq_some_iff.1 hx).1) hx c (hw c List.mem_cons_self)
theorem meet_asMet {S : Type} {K : Nat} {step : S → Nat → S} {first : S} {met : List S} {nx : List (List Nat)} (h : MeetP K step first met nx) (hl : nx.length = met.length) : AsMet nx := by
 unfold AsMet; rw [hl]; exact h.num
theorem meet_inj {S : Type} {K : Nat} {step : S → Nat → S} {first : S} {met : List S} {nx : List (List Nat)} (h : MeetP K step first met nx) {i j : Nat} {x : S} (hi : met[i]? = some x) (hj : met[j]? = some x) : i = j := by
 obtain ⟨h1, h2⟩ := List.getElem?_eq_some_iff.1 hi
 obtain ⟨h3, h4⟩ := List.getElem?_eq_some_iff.1 hj
 exact (List.getElem_inj h.nodup).1 (h2.trans h4.symm)
/-! Several at once. -/
def stepAll (nxs : List (List (List Nat))) (l : List Nat) (c : Nat) : List Nat := List.zipWith (fun nx s => nxt nx s c) nxs l
theorem fold_all (nxs : List (List (List Nat))) : (w : List Nat) → (l : List Nat) → l.length = nxs.length → w.foldl (stepAll nxs) l = List.zipWith (fun nx s => runM nx s w) nxs l
 | [], l, h => by
   simp only [List.foldl_nil, runM_nil]
   apply List.ext_getElem (by simp [h])
   intro i h1 h2
   simp
 | c :: w, l, h => by
   rw [List.foldl_cons, fold_all nxs w _ (by simp [stepAll, h])]
   apply List.ext_getElem (by simp [stepAll, h])
   intro i h1 h2
   simp [stepAll, runM_cons]
def bitsN : Nat → List Bool → Nat
 | _, [] => 0
 | i, b :: r => (if b = true then 2 ^ i else 0) ||| bitsN (i + 1) r
theorem bitsN_bit : (l : List Bool) → (i p : Nat) → ((bitsN i l).testBit p = true ↔ ∃ j, p = i + j ∧ l[j]? = some true)
 | [], i, p => by simp [bitsN]
 | b :: r, i, p => by
   simp only [bitsN, Nat.testBit_or, Bool.or_eq_true, bitsN_bit r (i + 1) p]
   constructor
   ·rintro (h | ⟨j, h1, h2⟩)
    ·cases b with
     | true =>
       rw [if_pos rfl, Nat.testBit_two_pow] at h
       exact ⟨0, by simp at h; omega, rfl⟩
     | false => simp at h
    ·exact ⟨j + 1, by omega, by simpa using h2⟩
   ·rintro ⟨j, h1, h2⟩
    cases j with
    | zero =>
      left
      simp at h2
      subst h2
      rw [if_pos rfl, Nat.testBit_two_pow]
      simp; omega
    | succ j => exact .inr ⟨j, by omega, by simpa using h2⟩
structure LeastOf (K : Nat) (xs : List (Nd × Bool)) (nx : List (List Nat)) (ou : List Nat) : Prop where
 asMet : AsMet nx
 wide : Wide K nx
 apart : Apart K nx ou
 len : ou.length = nx.length
 tells : ∀ w : List Nat, (∀ c, c ∈ w → c < K) → ∀ i, (ou.getD (runM nx 0 w) 0).testBit i = true ↔ ∃ x, xs[i]? = some x ∧ ∃ u v : List Int, w.map Int.ofNat = u ++ v ∧ (x.2 = true → u = []) ∧ x.1.fits v
theorem least_one {K : Nat} {xs : List (Nd × Bool)} {a b : List (List Nat)} {oa ob : List Nat} (ha : LeastOf K xs a oa) (hb : LeastOf K xs b ob) : a = b ∧ oa = ob := by
 refine table_one ha.asMet hb.asMet ha.wide hb.wide ha.apart hb.apart ha.len hb.len fun w hw => ?_
 apply Nat.eq_of_testBit_eq
 intro i
 have h1 := ha.tells w hw i
 have h2 := hb.tells w hw i
 cases h : (oa.getD (runM a 0 w) 0).testBit i with
 | true => exact ((h2.2 (h1.1 h))).symm
 | false =>
   cases h' : (ob.getD (runM b 0 w) 0).testBit i with
   | true => rw [h1.2 (h2.1 h')] at h; exact h.symm ▸ rfl
   | false => rfl
theorem least_of {K : Nat} {xs : List (Nd × Bool)} {nx : List (List Nat)} {ou kd : List Nat} {M : Nat} (h : Kinds K nx ou kd M) (ht : ∀ w : List Nat, (∀ c, c ∈ w → c < K) → ∀ i, (ou.getD (runM nx 0 w) 0).testBit i = true ↔ ∃ x, xs[i]? = some x ∧ ∃ u v : List Int, w.map Int.ofNat = u ++ v ∧ (x.2 = true → u = []) ∧ x.1.fits v) : LeastOf K xs (mrgN nx kd) (mrgO ou kd) :=
 ⟨h.asMetN, h.wideN, h.apart, by rw [h.lenO, h.lenN], fun w hw i => by rw [h.tells w hw]; exact ht w hw i⟩
structure SpotsP (K : Nat) (x : Nd × Bool) (met : List (Nat × Bool)) (nx : List (List Nat)) : Prop where
 meet : MeetP K (fun y c => stepS x.2 (x.1.span []).1 (x.1.span []).2 y (Int.ofNat c)) (begS (x.1.span []).1) met nx
 all : nx.length = met.length
theorem spots_run {K : Nat} {x : Nd × Bool} {met : List (Nat × Bool)} {nx : List (List Nat)} (h : SpotsP K x met nx) (w : List Nat) (hw : ∀ c, c ∈ w → c < K) : met[runM nx 0 w]? = some (x.1.spot x.2 (w.map Int.ofNat)) := by
 have := meet_run h.meet h.all w hw 0 _ h.meet.one
 rw [this]
 unfold Nd.spot
 rw [List.foldl_map]
theorem situ_tells {K : Nat} {xs : List (Nd × Bool)} (hr : ∀ x, x ∈ xs → x.1.right) {mets : List (List (Nat × Bool))} {nxs : List (List (List Nat))} (hl1 : mets.length = xs.length) (hl2 : nxs.length = xs.length) (hs : ∀ (i : Nat) x m n, xs[i]? = some x → mets[i]? = some m → nxs[i]? = some n → SpotsP K x m n)
 {met : List (List Nat)} {nx : List (List Nat)} (hm : MeetP K (stepAll nxs) (List.replicate xs.length 0) met nx) (hal : nx.length = met.length) {ou : List Nat} (hou : ou = met.map fun l => bitsN 0 (List.zipWith (fun m s => (m.getD s (0, false)).2) mets l))
 (w : List Nat) (hw : ∀ c, c ∈ w → c < K) (i : Nat) : (ou.getD (runM nx 0 w) 0).testBit i = true ↔ ∃ x, xs[i]? = some x ∧ ∃ u v : List Int, w.map Int.ofNat = u ++ v ∧ (x.2 = true → u = []) ∧ x.1.fits v := by
 have h1 := meet_run hm hal w hw 0 _ hm.one
 rw [fold_all nxs w _ (by simp [hl2])] at h1
 have h2 : ou.getD (runM nx 0 w) 0 = bitsN 0 (List.zipWith (fun m s => (m.getD s (0, false)).2) mets (List.zipWith (fun nx s => runM nx s w) nxs (List.replicate xs.length 0))) := by
  rw [hou, List.getD_eq_getElem?_getD, List.getElem?_map, h1]
  rfl
 rw [h2, bitsN_bit]
 have key : ∀ x, xs[i]? = some x → (List.zipWith (fun m s => (m.getD s (0, false)).2) mets (List.zipWith (fun nx s => runM nx s w) nxs (List.replicate xs.length 0)))[i]? = some (x.1.spot x.2 (w.map Int.ofNat)).2 := by
  intro x hx
  have hi := (List.getElem?_eq_some_iff.1 hx).1
  have hsp := hs i x mets[i] nxs[i] hx (List.getElem?_eq_getElem _) (List.getElem?_eq_getElem _)
  have hrun := spots_run hsp w hw
  rw [List.getElem?_eq_getElem (by simp; omega)]
  simp only [List.getElem_zipWith, List.getElem_replicate, Option.some.injEq]
  rw [List.getD_eq_getElem?_getD, hrun]
  rfl
 constructor
 ·rintro ⟨j, hj, h⟩
  have hji : j = i := by omega
  subst hji
  have hi : j < xs.length := by
   have := (List.getElem?_eq_some_iff.1 h).1
   simp at this; omega
  have hx : xs[j]? = some xs[j] := List.getElem?_eq_getElem hi
  rw [key _ hx] at h
  injection h with h
  exact ⟨xs[j], hx, (spot_fits xs[j].1 (hr _ (List.getElem_mem hi)) xs[j].2 _).1 h⟩
 ·rintro ⟨x, hx, h⟩
  refine ⟨i, by omega, ?_⟩
  rw [key x hx, (spot_fits x.1 (hr x (List.mem_of_getElem? hx)) x.2 _).2 h]
end Go.Proofs.YtclogekfdmikpaaDoor

/- A machine in memory: the walks of reads, fit and Step. -/
namespace Go.Proofs.YtclogekfdmikpaaDoor
open Go.RowKit
set_option linter.unusedVariables false
set_option linter.unusedSimpArgs false

def intsN (l : List Nat) : List Int := l.map Int.ofNat
def NRows (w : World) (a : Option Addr) (nx : List (List Nat)) : Prop := 0 < nx.length → ∃ b off, a = some ⟨b, off, none⟩ ∧ ∀ i (hi : i < nx.length), ∃ ra rc, w.cell? ⟨b, off + i, none⟩ = some (.slice ra nx[i].length rc) ∧ Rd .i64 w ra nx[i].length (intsN nx[i])
def MchAt (w : World) (bm : Nat) (K : Nat) (nx : List (List Nat)) (ou : List Nat) : Prop :=
 ∃ na nc oa oc, w.heap[bm]? = some (.cells #[.int .i64 (K : Int), .slice na nx.length nc, .slice oa ou.length oc] 100) ∧ NRows w na nx ∧ Rd .u64 w oa ou.length (intsN ou) ∧ nx.length ≤ 1000000 ∧ ou.length ≤ 1000000 ∧ K ≤ 1000000 ∧ ∀ row, row ∈ nx → row.length ≤ 1000000
theorem reads_any (w : World) (bm K : Nat) (nx : List (List Nat)) (ou : List Nat) (c : Int) (h : MchAt w bm K nx ou) : Calls Tryd.prog 52 #[.pointer (some ⟨bm, 0, none⟩), .int .i64 c] w fun e w' => e = .returned (.bool (decide (0 ≤ c) && decide (c < (K : Int)))) ∧ w' = w := by
 obtain ⟨na, nc, oa, oc, hm, _⟩ := h
 have c0 : w.cell? ⟨bm, 0, none⟩ = some (.int .i64 (K : Int)) := cell_of_row w bm 0 _ _ _ hm
 clear hm
 by_cases h0 : 0 ≤ c
 ·by_cases h1 : c < (K : Int)
  ·go_enter Tryd.func52, Tryd.ntmps52
   go_wp2
   go_ret
   exact ⟨by simp [h0, h1], rfl⟩
  ·have h1' : (K : Int) ≤ c := by omega
   go_enter Tryd.func52, Tryd.ntmps52
   go_wp2
   go_ret
   exact ⟨by simp [h0, h1], rfl⟩
 ·have h0' : c < 0 := by omega
  go_enter Tryd.func52, Tryd.ntmps52
  go_wp2
  go_ret
  exact ⟨by simp; omega, rfl⟩
theorem step_mch (w : World) (bm K : Nat) (nx : List (List Nat)) (ou : List Nat) (s c : Nat) (h : MchAt w bm K nx ou) (hs : s < nx.length) (hc : c < K) (hw : (nx.getD s []).length = K) : Calls Tryd.prog 30 #[.pointer (some ⟨bm, 0, none⟩), .int .i64 (s : Int), .int .i64 (c : Int)] w fun e w' => e = .returned (.int .i64 (nxt nx s c : Nat)) ∧ w' = w := by
 have HR : Hid (Calls Tryd.prog 52 #[.pointer (some ⟨bm, 0, none⟩), .int .i64 (c : Int)] w fun e w' => e = .returned (.bool (decide (0 ≤ (c : Int)) && decide ((c : Int) < (K : Int)))) ∧ w' = w) := reads_any w bm K nx ou c h
 obtain ⟨na, nc, oa, oc, hm, hnr, _, hnl, _, hKl, hrl⟩ := h
 obtain ⟨n, hn⟩ : ∃ n, n = nx.length := ⟨_, rfl⟩
 have hni : (n : Int) ≤ 1000000 := by omega
 have hsi : (s : Int) < (n : Int) := by omega
 have hci : (c : Int) < (K : Int) := by omega
 have hKi : (K : Int) ≤ 1000000 := by omega
 obtain ⟨b, off, rfl, hk⟩ := hnr (by omega)
 obtain ⟨ra, rc, hcell, hrd⟩ := hk s hs
 have gx : nx.getD s [] = nx[s] := by simp [List.getD_eq_getElem?_getD, hs]
 rw [gx] at hw
 rw [hw] at hcell hrd
 obtain ⟨b2, off2, rfl, hcc⟩ := hrd.2 (by omega)
 have hcs := hcc c hc
 obtain ⟨x, hx⟩ : ∃ x, x = nxt nx s c := ⟨_, rfl⟩
 have hxx : (intsN nx[s]).getD c 0 = (x : Int) := by
  rw [hx]; unfold nxt; rw [gx]; simp [intsN, List.getD_eq_getElem?_getD, show c < nx[s].length by omega]
 rw [hxx] at hcs
 rw [← hx]
 rw [← hn] at hm
 have c1 : w.cell? ⟨bm, 1, none⟩ = some (.slice (some ⟨b, off, none⟩) n nc) := cell_of_row w bm 1 _ _ _ hm
 have hdec : (decide (0 ≤ (c : Int)) && decide ((c : Int) < (K : Int))) = true := by simp; omega
 rw [hdec] at HR
 clear hm hnr hk hrd hcc hx hxx hn hnl hrl hw gx hdec
 go_enter Tryd.func30, Tryd.ntmps30
 go_wp2_with fail
 refine HR.out.mono ?_
 rintro e w1 ⟨rfl, hw1⟩
 subst hw1
 go_wp2
 go_ret
 exact ⟨rfl, rfl⟩
end Go.Proofs.YtclogekfdmikpaaDoor

/- A plan in memory: the walk of begin. -/
namespace Go.Proofs.YtclogekfdmikpaaDoor
open Go.RowKit
set_option linter.unusedVariables false
set_option linter.unusedSimpArgs false

def spV (x : Nat × Bool) : Value := .agg #[nwV x.1 0, nwV x.1 1, nwV x.1 2, nwV x.1 3, nwV x.1 4, nwV x.1 5, nwV x.1 6, .bool x.2]
structure PlanC (cs : Array Value) (s : Sp) (wh : Bool) (l : Pl) : Prop where
 em : cs[0]? = some (.bool s.em)
 fi : NsIn cs 1 s.fi
 en : NsIn cs 8 s.en
 wh : cs[15]? = some (.bool wh)
 tk : ∀ c, c < 24 → NsIn cs (16 + c * 7) (tkM (Int.ofNat c) l 0)
set_option maxHeartbeats 2000000 in
theorem begin_any (w : World) (bp : Nat) (cs : Array Value) (s : Sp) (wh : Bool) (l : Pl) (hb : w.heap[bp]? = some (.cells cs 142)) (h : PlanC cs s wh l) : Calls Tryd.prog 64 #[.pointer (some ⟨bp, 0, none⟩)] w fun e w' => e = .returned (spV (begS s)) ∧ Below w.heap.size w w' := by
 obtain ⟨wA, hwA⟩ : ∃ wA, wA = w.alloc (.cells #[.int .u64 0, .int .u64 0, .int .u64 0, .int .u64 0, .int .u64 0, .int .u64 0, .int .u64 0, .bool false] 122) := ⟨_, rfl⟩
 obtain ⟨H, hH⟩ : ∃ H, H = w.heap.size := ⟨_, rfl⟩
 have HB : Hid (Below w.heap.size w wA) := by rw [hwA]; exact (Below.refl _ w).alloc (Nat.le_refl _) _
 have hbA : wA.heap[bp]? = some (.cells cs 142) := (HB.out.block bp (Array.getElem?_eq_some_iff.1 hb).1).trans hb
 have hbH : wA.heap[H]? = some (.cells #[.int .u64 0, .int .u64 0, .int .u64 0, .int .u64 0, .int .u64 0, .int .u64 0, .int .u64 0, .bool false] 122) := by rw [hwA, hH]; exact heap_alloc_new w _
 have e0 : wA.cell? ⟨bp, 0, none⟩ = some (.bool s.em) := (cell_of_row wA bp 0 _ _ _ hbA).trans h.em
 have f1 : wA.cell? ⟨bp, 1, none⟩ = some (.int .u64 (nw s.fi 0 : Int)) := (cell_of_row wA bp 1 _ _ _ hbA).trans (h.fi 0 (by omega))
 have f2 : wA.cell? ⟨bp, 2, none⟩ = some (.int .u64 (nw s.fi 1 : Int)) := (cell_of_row wA bp 2 _ _ _ hbA).trans (h.fi 1 (by omega))
 have f3 : wA.cell? ⟨bp, 3, none⟩ = some (.int .u64 (nw s.fi 2 : Int)) := (cell_of_row wA bp 3 _ _ _ hbA).trans (h.fi 2 (by omega))
 have f4 : wA.cell? ⟨bp, 4, none⟩ = some (.int .u64 (nw s.fi 3 : Int)) := (cell_of_row wA bp 4 _ _ _ hbA).trans (h.fi 3 (by omega))
 have f5 : wA.cell? ⟨bp, 5, none⟩ = some (.int .u64 (nw s.fi 4 : Int)) := (cell_of_row wA bp 5 _ _ _ hbA).trans (h.fi 4 (by omega))
 have f6 : wA.cell? ⟨bp, 6, none⟩ = some (.int .u64 (nw s.fi 5 : Int)) := (cell_of_row wA bp 6 _ _ _ hbA).trans (h.fi 5 (by omega))
 have f7 : wA.cell? ⟨bp, 7, none⟩ = some (.int .u64 (nw s.fi 6 : Int)) := (cell_of_row wA bp 7 _ _ _ hbA).trans (h.fi 6 (by omega))
 have d0 : wA.cell? ⟨H, 0, none⟩ = some (.int .u64 0) := cell_of_row wA H 0 _ _ _ hbH
 have z0 : wA.frozen? ⟨H, 0, none⟩ = false := Lib.frozen_of_heap hbH 0
 have d1 : wA.cell? ⟨H, 1, none⟩ = some (.int .u64 0) := cell_of_row wA H 1 _ _ _ hbH
 have z1 : wA.frozen? ⟨H, 1, none⟩ = false := Lib.frozen_of_heap hbH 1
 have d2 : wA.cell? ⟨H, 2, none⟩ = some (.int .u64 0) := cell_of_row wA H 2 _ _ _ hbH
 have z2 : wA.frozen? ⟨H, 2, none⟩ = false := Lib.frozen_of_heap hbH 2
 have d3 : wA.cell? ⟨H, 3, none⟩ = some (.int .u64 0) := cell_of_row wA H 3 _ _ _ hbH
 have z3 : wA.frozen? ⟨H, 3, none⟩ = false := Lib.frozen_of_heap hbH 3
 have d4 : wA.cell? ⟨H, 4, none⟩ = some (.int .u64 0) := cell_of_row wA H 4 _ _ _ hbH
 have z4 : wA.frozen? ⟨H, 4, none⟩ = false := Lib.frozen_of_heap hbH 4
 have d5 : wA.cell? ⟨H, 5, none⟩ = some (.int .u64 0) := cell_of_row wA H 5 _ _ _ hbH
 have z5 : wA.frozen? ⟨H, 5, none⟩ = false := Lib.frozen_of_heap hbH 5
 have d6 : wA.cell? ⟨H, 6, none⟩ = some (.int .u64 0) := cell_of_row wA H 6 _ _ _ hbH
 have z6 : wA.frozen? ⟨H, 6, none⟩ = false := Lib.frozen_of_heap hbH 6
 have d7 : wA.cell? ⟨H, 7, none⟩ = some (.bool false) := cell_of_row wA H 7 _ _ _ hbH
 have z7 : wA.frozen? ⟨H, 7, none⟩ = false := Lib.frozen_of_heap hbH 7
 have hHw : w.heap.size ≤ H := by rw [hH]; exact Nat.le_refl _
 have HFIN : Hid (∀ v0 v1 v2 v3 v4 v5 v6 v7, Below w.heap.size w ((((((((wA.setCell ⟨H, 0, none⟩ v0).setCell ⟨H, 1, none⟩ v1).setCell ⟨H, 2, none⟩ v2).setCell ⟨H, 3, none⟩ v3).setCell ⟨H, 4, none⟩ v4).setCell ⟨H, 5, none⟩ v5).setCell ⟨H, 6, none⟩ v6).setCell ⟨H, 7, none⟩ v7).drew) := fun v0 v1 v2 v3 v4 v5 v6 v7 => (below_put _ (below_put _ (below_put _ (below_put _ (below_put _ (below_put _ (below_put _ (below_put _ HB.out hHw) hHw) hHw) hHw) hHw) hHw) hHw) hHw).drew
 clear hb h hbA hbH hHw
 go_enter Tryd.func64, Tryd.ntmps64
 go_upto_region 1 with fail
 rw [← hH, ← hwA]
 clear hH hwA
 go_region
 go_wp2
 refine bodyPost_ret (v := spV (begS s)) ?_ rfl ⟨rfl, HFIN.out _ _ _ _ _ _ _ _⟩
 rw [results_cell_one rfl]
 go_simp
 rfl
end Go.Proofs.YtclogekfdmikpaaDoor

/- Plain mathematics of words: the lowest bit, and going through the bits, rising; nothing of the program is named here. -/
namespace Go.Proofs.YtclogekfdmikpaaDoor
set_option linter.unusedVariables false
set_option linter.unusedSimpArgs false

theorem low_ex : (x : Nat) → x ≠ 0 → ∃ t m, x = 2 ^ t * (2 * m + 1) := by
 intro x
 induction x using Nat.strongRecOn with
 | ind x ih =>
   intro h
   rcases Nat.mod_two_eq_zero_or_one x with h1 | h1
   ·obtain ⟨t, m, e⟩ := ih (x / 2) (by omega) (by omega)
    refine ⟨t + 1, m, ?_⟩
    rw [Nat.pow_succ, Nat.mul_comm (2 ^ t) 2, Nat.mul_assoc, ← e]
    omega
   ·exact ⟨0, x / 2, by simp; omega⟩
theorem odd_and (m n j : Nat) : ((2 * m + 1).testBit j && (2 * n).testBit j) = (2 * (m &&& n)).testBit j := by
 cases j with
 | zero => simp
 | succ j => simp [Nat.testBit_succ, Nat.testBit_and, show (2 * m + 1) / 2 = m by omega]
theorem low_away (t m : Nat) : 2 ^ t * (2 * m + 1) &&& (2 ^ t * (2 * m + 1) - 1) = 2 ^ t * (2 * m) := by
 have hp : 0 < 2 ^ t := Nat.two_pow_pos t
 have e : 2 ^ t * (2 * m + 1) - 1 = 2 ^ t * (2 * m) + (2 ^ t - 1) := by
  rw [Nat.mul_add, Nat.mul_one]; omega
 rw [e]
 apply Nat.eq_of_testBit_eq
 intro p
 rw [Nat.testBit_and, Nat.testBit_two_pow_mul_add _ (by omega)]
 rw [show 2 ^ t * (2 * m + 1) = 2 ^ t * (2 * m + 1) + 0 from rfl, Nat.testBit_two_pow_mul_add _ hp]
 rw [show 2 ^ t * (2 * m) = 2 ^ t * (2 * m) + 0 from rfl, Nat.testBit_two_pow_mul_add _ hp]
 by_cases h : p < t
 ·simp [h]
 ·simp only [h, if_false]
  rw [odd_and, Nat.and_self]
theorem low_only (t m : Nat) (h : 2 ^ t * (2 * m + 1) < 2 ^ 64) : 2 ^ t * (2 * m + 1) &&& (2 ^ 64 - 2 ^ t * (2 * m + 1)) = 2 ^ t := by
 have hp : 0 < 2 ^ t := Nat.two_pow_pos t
 have ht : t < 64 := by
  refine Nat.lt_of_not_le fun hle => ?_
  have h1 : (2 : Nat) ^ 64 ≤ 2 ^ t := Nat.pow_le_pow_right (by decide) hle
  have h2 : 2 ^ t * 1 ≤ 2 ^ t * (2 * m + 1) := Nat.mul_le_mul_left _ (by omega)
  omega
 obtain ⟨n, hn⟩ : ∃ n, n = 63 - t := ⟨_, rfl⟩
 have e64 : (2 : Nat) ^ 64 = 2 ^ t * (2 * 2 ^ n) := by
  rw [show 2 * 2 ^ n = 2 ^ (n + 1) by rw [Nat.pow_succ, Nat.mul_comm], ← Nat.pow_add]
  congr 1; omega
 have hm : m < 2 ^ n := by
  rw [e64] at h
  have := Nat.lt_of_mul_lt_mul_left h
  omega
 have e : 2 ^ 64 - 2 ^ t * (2 * m + 1) = 2 ^ t * (2 * (2 ^ n - (m + 1)) + 1) := by
  rw [e64, ← Nat.mul_sub]
  congr 1; omega
 rw [e]
 apply Nat.eq_of_testBit_eq
 intro p
 rw [Nat.testBit_and]
 rw [show 2 ^ t * (2 * m + 1) = 2 ^ t * (2 * m + 1) + 0 from rfl, Nat.testBit_two_pow_mul_add _ hp]
 rw [show 2 ^ t * (2 * (2 ^ n - (m + 1)) + 1) = 2 ^ t * (2 * (2 ^ n - (m + 1)) + 1) + 0 from rfl, Nat.testBit_two_pow_mul_add _ hp]
 rw [Nat.testBit_two_pow]
 by_cases hlt : p < t
 ·have : t ≠ p := by omega
  simp [hlt, this]
 ·simp only [hlt, if_false]
  obtain ⟨j, hj⟩ : ∃ j, j = p - t := ⟨_, rfl⟩
  rw [← hj]
  cases j with
  | zero =>
    have : t = p := by omega
    simp [this]
  | succ j =>
    have hne : t ≠ p := by omega
    simp only [Nat.testBit_succ, show (2 * m + 1) / 2 = m by omega, show (2 * (2 ^ n - (m + 1)) + 1) / 2 = 2 ^ n - (m + 1) by omega]
    rw [Nat.testBit_two_pow_sub_succ hm, decide_eq_false hne]
    cases m.testBit j <;> simp
def bitsUp (x : Nat) : List Nat := (List.range 64).filter (fun p => x.testBit p)
theorem bitsUp_zero : bitsUp 0 = [] := by simp [bitsUp]
theorem bitsUp_low (t m : Nat) (h : t < 64) : bitsUp (2 ^ t * (2 * m + 1)) = t :: bitsUp (2 ^ t * (2 * m)) := by
 have hp : 0 < 2 ^ t := Nat.two_pow_pos t
 have b1 : ∀ p, (2 ^ t * (2 * m + 1)).testBit p = if p < t then false else (2 * m + 1).testBit (p - t) := fun p => by
  rw [show 2 ^ t * (2 * m + 1) = 2 ^ t * (2 * m + 1) + 0 from rfl, Nat.testBit_two_pow_mul_add _ hp]; simp
 have b2 : ∀ p, (2 ^ t * (2 * m)).testBit p = if p < t then false else (2 * m).testBit (p - t) := fun p => by
  rw [show 2 ^ t * (2 * m) = 2 ^ t * (2 * m) + 0 from rfl, Nat.testBit_two_pow_mul_add _ hp]; simp
 have hr : List.range 64 = List.range t ++ (t :: (List.range (63 - t)).map (fun i => t + 1 + i)) := by
  have h1 : List.range 64 = List.range (t + (1 + (63 - t))) := by congr 1; omega
  rw [h1, List.range_add, List.range_add]
  simp [List.range_succ, Function.comp_def, Nat.add_assoc]
 unfold bitsUp
 rw [hr, List.filter_append, List.filter_append, List.filter_cons, List.filter_cons]
 have n1 : (List.range t).filter (fun p => (2 ^ t * (2 * m + 1)).testBit p) = [] := by
  rw [List.filter_eq_nil_iff]
  intro p hp'
  rw [b1, if_pos (List.mem_range.1 hp')]; simp
 have n2 : (List.range t).filter (fun p => (2 ^ t * (2 * m)).testBit p) = [] := by
  rw [List.filter_eq_nil_iff]
  intro p hp'
  rw [b2, if_pos (List.mem_range.1 hp')]; simp
 have t1 : (2 ^ t * (2 * m + 1)).testBit t = true := by rw [b1]; simp
 have t2 : (2 ^ t * (2 * m)).testBit t = false := by rw [b2]; simp
 rw [n1, n2, t1, t2]
 simp only [List.nil_append, if_true, Bool.false_eq_true, if_false]
 congr 1
 apply List.filter_congr
 intro p hp'
 obtain ⟨i, _, rfl⟩ := List.mem_map.1 hp'
 rw [b1, b2, if_neg (by omega), if_neg (by omega), show t + 1 + i - t = i + 1 by omega]
 simp [Nat.testBit_succ, show (2 * m + 1) / 2 = m by omega]
end Go.Proofs.YtclogekfdmikpaaDoor

/- The walk of math/bits.TrailingZeros64: the number of a word's lowest bit. -/
namespace Go.Proofs.YtclogekfdmikpaaDoor
open Go.RowKit
set_option linter.unusedVariables false
set_option linter.unusedSimpArgs false

def TabD (w : World) : Prop := ∀ j, j < 64 → w.cell? ⟨0, j, none⟩ = some (.int .u8 (Lib.deBruijn64tab.getD j 0 : Nat))
theorem TabD.later {w w' : World} (h : TabD w) (hb : Below w.heap.size w w') : TabD w' := fun j hj => upC hb (h j hj)
theorem tab_all : ∀ t : Fin 64, 2 ^ t.val * 285870213051353865 % 18446744073709551616 / 288230376151711744 < 64 ∧ Lib.deBruijn64tab.getD (2 ^ t.val * 285870213051353865 % 18446744073709551616 / 288230376151711744) 0 = t.val := by decide
theorem low_lt {t m : Nat} (h : 2 ^ t * (2 * m + 1) < 2 ^ 64) : t < 64 := by
 refine Nat.lt_of_not_le fun hle => ?_
 have h1 : (2 : Nat) ^ 64 ≤ 2 ^ t := Nat.pow_le_pow_right (by decide) hle
 have h2 : 2 ^ t * 1 ≤ 2 ^ t * (2 * m + 1) := Nat.mul_le_mul_left _ (by omega)
 omega
set_option maxHeartbeats 1000000 in
theorem tz_any (t m x : Nat) (hx : x = 2 ^ t * (2 * m + 1)) (h : x < 2 ^ 64) (w : World) (hT : TabD w) : Calls Tryd.prog 92 #[.int .u64 (x : Int)] w fun e w' => e = .returned (.int .i64 (t : Int)) ∧ w' = w := by
 have ht : t < 64 := low_lt (m := m) (by rw [← hx]; exact h)
 have hpos : 0 < x := by rw [hx]; exact Nat.mul_pos (Nat.two_pow_pos t) (by omega)
 obtain ⟨hi, hv⟩ := tab_all ⟨t, ht⟩
 simp only at hi hv
 obtain ⟨idx, hidx⟩ : ∃ idx, idx = 2 ^ t * 285870213051353865 % 18446744073709551616 / 288230376151711744 := ⟨_, rfl⟩
 rw [← hidx] at hi hv
 have hcell := hT idx hi
 rw [hv] at hcell
 have hlow : x &&& (18446744073709551616 - x) = 2 ^ t := by
  have := low_only t m (by rw [← hx]; exact h)
  rw [← hx] at this
  exact this
 have hneg : IntKind.u64.wrap (-(x : Int)) = ((18446744073709551616 - x : Nat) : Int) := by
  rw [IntKind.wrap_u64]; omega
 have key : IntKind.u64.wrap (bits BinOp.and IntKind.u64 (x : Int) (IntKind.u64.wrap (-(x : Int))) * 285870213051353865) / 288230376151711744 = (idx : Int) := by
  rw [hneg, u64_and_nat _ _ (by omega) (by omega), hlow, IntKind.wrap_u64, hidx]
  generalize 2 ^ t = y
  omega
 have hx0 : ((x : Int) == 0) = false := by rw [beq_eq_false_iff_ne]; omega
 have hxi : ¬ (x : Int) = 0 := by omega
 have hii : (idx : Int) < 64 := by omega
 have hti : (t : Int) < 64 := by omega
 clear hT hx h hpos hidx hv hlow hneg
 go_enter Tryd.func92, Tryd.ntmps92
 go_wp2_with (simp only [key])
 go_ret
 exact ⟨rfl, rfl⟩
end Go.Proofs.YtclogekfdmikpaaDoor

/- All nodes of a set, rising, word by word; what lead and step make of them. -/
namespace Go.Proofs.YtclogekfdmikpaaDoor
set_option linter.unusedVariables false
set_option linter.unusedSimpArgs false

def eachL (S : Nat) : List Nat := (List.range 448).filter (fun p => S.testBit p)
theorem range_words : List.range 448 = (List.range 7).flatMap (fun i => (List.range 64).map (fun p => 64 * i + p)) := by decide +kernel
theorem eachL_words (S : Nat) : eachL S = (List.range 7).flatMap (fun i => (bitsUp (nw S i)).map (fun p => 64 * i + p)) := by
 unfold eachL
 rw [range_words, List.filter_flatMap]
 congr 1
 funext i
 rw [List.filter_map]
 congr 1
 unfold bitsUp
 apply List.filter_congr
 intro p hp
 rw [nw_bit, decide_eq_true (List.mem_range.1 hp), Bool.true_and]
 rfl
theorem eachL_mem (S p : Nat) : p ∈ eachL S ↔ p < 448 ∧ S.testBit p = true := by simp [eachL]
def leadF (T : Nat) (l : Pl) (ps : List Nat) : Pl := ps.foldl (fun l p => l.modify p (fun e => (e.1, e.2 ||| T))) l
theorem leadF_get (T : Nat) : (ps : List Nat) → (l : Pl) → (q : Nat) → (leadF T l ps)[q]? = (l[q]?).map (fun e => if q ∈ ps then (e.1, e.2 ||| T) else e)
 | [], l, q => by simp [leadF]
 | p :: ps, l, q => by
   have ih := leadF_get T ps (l.modify p (fun e => (e.1, e.2 ||| T))) q
   show (leadF T (l.modify p (fun e => (e.1, e.2 ||| T))) ps)[q]? = _
   rw [ih, List.getElem?_modify]
   cases l[q]? with
   | none => rfl
   | some e =>
     by_cases h1 : p = q
     ·subst h1
      by_cases h2 : p ∈ ps <;> simp [h2, Nat.or_assoc]
     ·have h1' : ¬ q = p := fun e => h1 e.symm
      by_cases h2 : q ∈ ps <;> simp [h1, h1', h2]
theorem leadF_all (S T : Nat) (l : Pl) (h : ∀ p, S.testBit p = true → p < 448) : leadF T l (eachL S) = leadP S T l := by
 apply List.ext_getElem?
 intro q
 rw [leadF_get, leadP_get]
 congr 1
 funext e
 by_cases hq : S.testBit q = true
 ·rw [if_pos ((eachL_mem S q).2 ⟨h q hq, hq⟩), if_pos hq]
 ·rw [if_neg (fun hm => hq ((eachL_mem S q).1 hm).2), if_neg hq]
def unF (l : Pl) (a : Nat) (ps : List Nat) : Nat := ps.foldl (fun a p => a ||| (l.getD p ([], 0)).2) a
theorem unF_bit (l : Pl) : (ps : List Nat) → (a q : Nat) → ((unF l a ps).testBit q = true ↔ a.testBit q = true ∨ ∃ p, p ∈ ps ∧ bhP l p q)
 | [], a, q => by simp [unF]
 | p :: ps, a, q => by
   show (unF l (a ||| (l.getD p ([], 0)).2) ps).testBit q = true ↔ _
   rw [unF_bit l ps]
   have hb : (l.getD p ([], 0)).2.testBit q = true ↔ bhP l p q := by
    unfold bhP
    rw [List.getD_eq_getElem?_getD]
    cases l[p]? with
    | none => simp
    | some e => simp
   simp only [Nat.testBit_or, Bool.or_eq_true, hb, List.mem_cons, exists_eq_or_imp, or_assoc]
theorem unF_all (S a : Nat) (l : Pl) (h : ∀ p, S.testBit p = true → p < 448) : unF l a (eachL S) = a ||| unM S l 0 := by
 apply Nat.eq_of_testBit_eq
 intro q
 rw [Bool.eq_iff_iff, unF_bit, Nat.testBit_or, Bool.or_eq_true, unM_bhP]
 refine or_congr Iff.rfl (exists_congr fun p => and_congr_left fun _ => ?_)
 rw [eachL_mem]
 exact ⟨fun h => h.2, fun hp => ⟨h p hp, hp⟩⟩
end Go.Proofs.YtclogekfdmikpaaDoor

/- The nodes of a set, one by one, to who ranges over them: the contract of each. -/
namespace Go.Proofs.YtclogekfdmikpaaDoor
open Go.RowKit Go.Shelf
set_option linter.unusedVariables false
set_option linter.unusedSimpArgs false
attribute [local go_sem] Oper.semAt_some

def eachW (S i : Nat) : List Nat := (List.range i).flatMap (fun i => (bitsUp (nw S i)).map (fun p => 64 * i + p))
theorem eachW_all (S : Nat) : eachW S 7 = eachL S := (eachL_words S).symm
theorem eachW_next (S i : Nat) : eachW S (i + 1) = eachW S i ++ (bitsUp (nw S i)).map (fun p => 64 * i + p) := by
 unfold eachW
 rw [List.range_succ, List.flatMap_append]
 simp
set_option maxRecDepth 100000 in
set_option maxHeartbeats 4000000 in
theorem each_in (n : Nat) (S l : Nat) (J : List Nat → World → Prop) (hJ : ∀ pre W W', J pre W → W.grownBy W' none → J pre W') (hT : ∀ pre W, J pre W → TabD W)
 (hY : ∀ (pre : List Nat) (x : Nat) W1, x < 448 → S.testBit x = true → J pre W1 → YieldAt Fence.wide (n - 1) Tryd.prog l #[.int .i64 (x : Int)] W1 fun e W' => e = .returned (.bool true) ∧ J (pre ++ [x]) W')
 (W : World) (h0 : J [] W) :
 CallsIn Fence.wide n Tryd.prog 82 #[.agg (nsA S), .func (.yield l) #[] #[]] W fun e W' => (∃ v, e = .returned v) ∧ J (eachL S) W' := by
 have HY : Hid (∀ (pre : List Nat) (x : Nat) W1, x < 448 → S.testBit x = true → J pre W1 → YieldAt Fence.wide (n - 1) Tryd.prog l #[.int .i64 ((x : Nat) : Int)] W1 fun e W' => e = .returned (.bool true) ∧ J (pre ++ [x]) W') := hY
 have HT : Hid (∀ pre W, J pre W → TabD W) := hT
 have HJ : Hid (∀ pre W W', J pre W → W.grownBy W' none → J pre W') := hJ
 obtain ⟨wA, hwA⟩ : ∃ wA, wA = W.alloc (.cells (nsA S) 120) := ⟨_, rfl⟩
 have HA : Hid (J [] wA) := by rw [hwA]; exact hJ _ _ _ h0 (World.grownBy_alloc W _ none)
 clear hY hT hJ h0
 obtain ⟨H, hH⟩ : ∃ H, H = W.heap.size := ⟨_, rfl⟩
 have hbA : wA.heap[H]? = some (.cells (nsA S) 120) := by rw [hwA, hH]; exact heap_alloc_new W _
 have g0 : wA.cell? ⟨H, 0, none⟩ = some (.int .u64 (nw S 0 : Int)) := cell_of_row wA H 0 _ _ _ hbA
 have g1 : wA.cell? ⟨H, 1, none⟩ = some (.int .u64 (nw S 1 : Int)) := cell_of_row wA H 1 _ _ _ hbA
 have g2 : wA.cell? ⟨H, 2, none⟩ = some (.int .u64 (nw S 2 : Int)) := cell_of_row wA H 2 _ _ _ hbA
 have g3 : wA.cell? ⟨H, 3, none⟩ = some (.int .u64 (nw S 3 : Int)) := cell_of_row wA H 3 _ _ _ hbA
 have g4 : wA.cell? ⟨H, 4, none⟩ = some (.int .u64 (nw S 4 : Int)) := cell_of_row wA H 4 _ _ _ hbA
 have g5 : wA.cell? ⟨H, 5, none⟩ = some (.int .u64 (nw S 5 : Int)) := cell_of_row wA H 5 _ _ _ hbA
 have g6 : wA.cell? ⟨H, 6, none⟩ = some (.int .u64 (nw S 6 : Int)) := cell_of_row wA H 6 _ _ _ hbA
 obtain ⟨V, hV⟩ : ∃ V, V = Value.agg (nsA S) := ⟨_, rfl⟩
 have hix : ∀ (k : Nat) (Wx : World), k < 7 → (Instr.index 120 V (.int .i64 (k : Int))).run Tryd.prog Wx = .ok (.int .u64 (nw S k : Int)) Wx := by
  intro k Wx hk
  rw [hV]
  match k, hk with
  | 0, _ => rfl
  | 1, _ => rfl
  | 2, _ => rfl
  | 3, _ => rfl
  | 4, _ => rfl
  | 5, _ => rfl
  | 6, _ => rfl
 have HIX : Hid (∀ (k : Nat) (Wx : World), k < 7 → (Instr.index 120 V (.int .i64 (k : Int))).run Tryd.prog Wx = .ok (.int .u64 (nw S k : Int)) Wx) := hix
 clear hbA hix
 refine callsIn_wide.2 ?_
 go_enter Tryd.func82, Tryd.ntmps82
 go_upto_region 1 with fail
 rw [← hH, ← hwA]
 clear hwA hH
 go_wp2
 rw [show Value.agg #[.int .u64 (nw S 0 : Int), .int .u64 (nw S 1 : Int), .int .u64 (nw S 2 : Int), .int .u64 (nw S 3 : Int), .int .u64 (nw S 4 : Int), .int .u64 (nw S 5 : Int), .int .u64 (nw S 6 : Int)] = V from hV.symm, ← hV]
 clear hV g0 g1 g2 g3 g4 g5 g6
 go_loopw [7] (fun x7 wr => ∃ k : Nat, k ≤ 7 ∧ x7 = .int .i64 k ∧ J (eachW S k) wr) (fun x7 _ => 7 - (intOf x7).toNat)
 case atStart => exact ⟨0, by omega, rfl, HA.out⟩
 case round =>
  obtain ⟨k, hk, hx7, hj⟩ := hrel
  subst hx7
  have HJ1 : Hid (J (eachW S k) wr) := hj
  clear hj
  by_cases hlt : k < 7
  ·have hki : (k : Int) < 7 := by omega
   have hrun := fun Wx => HIX.out k Wx hlt
   obtain ⟨X, hX⟩ : ∃ X, X = nw S k := ⟨_, rfl⟩
   have HX : Hid (X = nw S k) := hX
   have HXL : Hid (X < 2 ^ 64) := by rw [hX]; exact nw_lt S k
   rw [← hX] at hrun
   clear hX
   go_wp2
   go_loopw [5] (fun x5 wz => ∃ (Y : Nat) (pre : List Nat), x5 = .int .u64 (Y : Int) ∧ Y < 2 ^ 64 ∧ bitsUp X = pre ++ bitsUp Y ∧ J (eachW S k ++ pre.map (fun p => 64 * k + p)) wz) (fun x5 _ => (intOf x5).toNat)
   case atStart => exact ⟨X, [], rfl, HXL.out, rfl, by simpa using HJ1.out⟩
   case round =>
    obtain ⟨Y, pre, hx5, hY64, hpre, hj⟩ := hrel
    subst hx5
    have HJ2 : Hid (J (eachW S k ++ pre.map (fun p => 64 * k + p)) wr) := hj
    have HP : Hid (bitsUp X = pre ++ bitsUp Y) := hpre
    clear hj hpre
    by_cases hz : Y = 0
    ·subst hz
     have HN : Hid (J (eachW S (k + 1)) wr) := by
      show J _ _
      rw [eachW_next, ← HX.out, HP.out, bitsUp_zero, List.append_nil]
      exact HJ2.out
     go_wp2
     go_roundw
     case rel => exact ⟨k + 1, by omega, by go_num, HN.out⟩
     case measure => simp [intOf]; omega
    ·obtain ⟨t, m, hYm⟩ := low_ex Y hz
     have ht : t < 64 := low_lt (m := m) (by rw [← hYm]; exact hY64)
     have HTZ : Hid (Calls Tryd.prog 92 #[.int .u64 (Y : Int)] wr fun e w' => e = .returned (.int .i64 (t : Int)) ∧ w' = wr) := tz_any t m Y hYm hY64 wr (HT.out _ _ HJ2.out)
     have hYn : ¬ (Y : Int) = 0 := by omega
     have hYne : ((Y : Int) == 0) = false := by rw [beq_eq_false_iff_ne]; exact hYn
     have hti : (t : Int) < 64 := by omega
     obtain ⟨Z, hZ⟩ : ∃ Z, Z = Y &&& (Y - 1) := ⟨_, rfl⟩
     have hZv : Z = 2 ^ t * (2 * m) := by rw [hZ, hYm]; exact low_away t m
     have hZlt : Z < Y := by
      rw [hZv, hYm]
      exact Nat.mul_lt_mul_of_pos_left (by omega) (Nat.two_pow_pos t)
     have HPN : Hid (bitsUp X = (pre ++ [t]) ++ bitsUp Z) := by
      show _ = _
      rw [HP.out, hZv, List.append_assoc]
      congr 1
      rw [hYm, bitsUp_low t m ht]
      rfl
     obtain ⟨q, hq⟩ : ∃ q, q = 64 * k + t := ⟨_, rfl⟩
     have hq448 : q < 448 := by omega
     have hqi : (q : Int) = (k : Int) * 64 + (t : Int) := by omega
     have HQ : Hid (q = 64 * k + t) := hq
     have hsub : IntKind.u64.wrap ((Y : Int) - 1) = ((Y - 1 : Nat) : Int) := by rw [IntKind.wrap_u64]; omega
     have hbt : bits .and .u64 (Y : Int) ((Y - 1 : Nat) : Int) = (Z : Int) := by rw [u64_and_nat _ _ (by omega) (by omega), hZ]
     have hqS : S.testBit q = true := by
      have h1 : t ∈ bitsUp X := by rw [HPN.out]; simp
      have h2 : X.testBit t = true := by simpa [bitsUp] using (List.mem_filter.1 h1).2
      rw [HX.out, nw_bit] at h2
      rw [hq]
      simpa using (Bool.and_eq_true_iff.1 h2).2
     obtain ⟨fn, tmps, assign, body, hy, hR⟩ := HY.out _ q wr hq448 hqS HJ2.out
     rw [hqi] at hy
     clear hZ hZv hYm hqi hq hqS
     go_upto_region 6 with fail
     refine (wpIn_wide (n := n)).1 ?_
     gi_wp2
     refine ⟨trivial, fun h => (by cases h), ?_⟩
     refine (callsIn_wide.2 HTZ.out).mono ?_
     rintro e w1 ⟨rfl, hw1⟩
     subst hw1
     gi_wp2
     refine ⟨fun h => (by cases h), ?_⟩
     refine hR.mono ?_
     rintro e W3 ⟨rfl, hJ3⟩
     have HJ3 : Hid (J (eachW S k ++ (pre ++ [t]).map (fun p => 64 * k + p)) W3) := by
      show J _ _
      rw [List.map_append, ← List.append_assoc]
      rw [HQ.out] at hJ3
      exact hJ3
     clear hJ3 hR hy HTZ
     gi_wp2
     go_wp2
     go_roundw
     case rel => exact ⟨Z, pre ++ [t], by go_num, by omega, HPN.out, HJ3.out⟩
     case measure => simp [intOf]; omega
  ·obtain rfl : k = 7 := by omega
   go_wp2
   go_end0
   exact ⟨⟨_, rfl⟩, by rw [← eachW_all]; exact HJ1.out⟩
end Go.Proofs.YtclogekfdmikpaaDoor

/- A loop over the nodes of a set: one law for who ranges over each. -/
namespace Go.Proofs.YtclogekfdmikpaaDoor
open Go.RowKit Go.Shelf
set_option linter.unusedVariables false
set_option linter.unusedSimpArgs false

def goesOn (B : Nat) (I : List Nat → World → Prop) (xs : List Nat) (W : World) : Exit → Act → World → Prop
 | .normal, _, W' => KeepsFrom B W W' ∧ I xs W'
 | _, _, _ => False
set_option maxHeartbeats 2000000 in
theorem wp_each {g : Operand} {p : Tmp} {assign body : Code} {Q : Exit → Act → World → Prop} {a : Act} {w : World} (S : Nat)
 (hg : a.eval g = .func (.func 82) #[.agg (nsA S)] #[]) (I : List Nat → World → Prop) (hI : OwnFrom w.heap.size I) (hT : ∀ pre W, I pre W → TabD W) (h0 : I [] w) (a1 : Nat → Act)
 (hassign : ∀ (l x : Nat) (W : World) (K : Act → World → Prop), K (a1 x) W → assign.wpIn (Fence.wide.inRound l) 1 Tryd.prog (Exit.then K (fun _ _ _ => False)) { tmps := ((#[p] : Array Tmp).zip #[Value.int .i64 (x : Int)]).foldl (fun t (p, v) => t.setIfInBounds p v) a.tmps, defers := [] } W)
 (hbody : ∀ (l : Nat) (pre : List Nat) (x : Nat) (W : World), x < 448 → S.testBit x = true → I pre W → body.wpIn (Fence.wide.inRound l) 1 Tryd.prog (goesOn w.heap.size I (pre ++ [x]) W) (a1 x) W)
 (hdone : ∀ (D : Nat) (W : World), w.heap.size ≤ D → I (eachL S) W → W.heap[D]? = some (.deferred (some [])) → Q .normal { a with defers := { target := .collected D, args := #[] } :: a.defers } W) :
 (Code.rangeFunc g #[p] assign body).wp Tryd.prog Q a w := by
 refine (wpIn_wide (n := 3)).1 (wpIn_rangeFunc fun fn hfn => ?_)
 obtain ⟨rec, hrec⟩ : ∃ rec : LoopState → Loop, rec = fun st => { state := st, pending := none, fn, tmps := a.tmps, params := #[p], assign, body, defers := w.heap.size } := ⟨_, rfl⟩
 obtain ⟨W1, hW1⟩ : ∃ W1, W1 = (w.alloc (.deferred (some []))).alloc (.loop (rec .ready)) := ⟨_, rfl⟩
 have hL1 : W1.heap[w.heap.size + 1]? = some (.loop (rec .ready)) := by
  have := World.alloc_heap_new (w.alloc (.deferred (some []))) (.loop (rec .ready))
  rw [hW1]; rwa [World.size_alloc] at this
 have hD1 : W1.heap[w.heap.size]? = some (.deferred (some [])) := by rw [hW1]; exact (Below.heap_alloc _ _ _ (by simp)).trans (World.alloc_heap_new w _)
 have hI1 : I [] W1 := by rw [hW1]; exact hI.alloc _ (hI.alloc _ h0)
 refine ⟨w.heap.size + 1, [{ target := .collected w.heap.size, args := #[] }], W1, { target := .fn (.func 82) #[], args := #[.agg (nsA S), .func (.yield (w.heap.size + 1)) #[] #[]] }, W1, 82,
  #[.agg (nsA S), .func (.yield (w.heap.size + 1)) #[] #[]], W1, ?_, ?_, fun _ _ => trivial, ?_, fun h => (by cases h), ?_⟩
 ·rw [hW1, hrec]; exact run_enterLoop_outer _ _ _ _ _
 ·simp only [resolve, hg]
  simp [go_sem]
 ·simp [invoke, go_sem, enters_of Tryd.func82 (by kernel_rfl) rfl]
 ·refine (each_in 2 S (w.heap.size + 1) (fun pre W => I pre W ∧ W.heap[w.heap.size + 1]? = some (.loop (rec .ready)) ∧ W.heap[w.heap.size]? = some (.deferred (some [])))
   (fun pre A B h hgr => ⟨hI pre A B none h.1 hgr (fun r e => by cases e), (hgr.block _ (Array.getElem?_eq_some_iff.1 h.2.1).1 (by simp)).trans h.2.1, (hgr.block _ (Array.getElem?_eq_some_iff.1 h.2.2).1 (by simp)).trans h.2.2⟩)
   (fun pre W h => hT pre W h.1) ?_ W1 ⟨hI1, hL1, hD1⟩).mono ?_
  ·rintro pre x W hx hS ⟨hi, hl, hk⟩
   have hlt : w.heap.size + 1 < W.heap.size := (Array.getElem?_eq_some_iff.1 hl).1
   have hy := run_yield (P := Tryd.prog) (args := #[.int .i64 (x : Int)]) hl (by rw [hrec]; rfl)
   rw [hrec] at hy
   refine ⟨fn, _, assign, body, hy, roundIn_of_wpIn hfn (hassign _ x W _ ⟨_, run_beginRound hl (by rw [hrec]), ?_⟩)⟩
   have hl2 : (W.putObj (w.heap.size + 1) (.loop { rec .ready with state := .busy })).heap[w.heap.size + 1]? = some (.loop { rec .ready with state := .busy }) := World.putObj_heap_same hlt
   have hk2 : (W.putObj (w.heap.size + 1) (.loop { rec .ready with state := .busy })).heap[w.heap.size]? = some (.deferred (some [])) := (World.putObj_heap_other (by omega)).trans hk
   refine wpIn_mono (hbody _ pre x _ hx hS (hI.putObj _ hi (by omega) hl rfl)) ?_
   rintro e a3 W3 hp
   cases e with
   | normal =>
     obtain ⟨hk3, hi3⟩ := hp
     have hl3 := hk3.same _ _ (by omega) hl2 rfl
     have hr := run_endRound (P := Tryd.prog) none hl3
     have hi4 := hI.putObj (.loop (rec .ready)) hi3 (by omega) hl3 rfl
     have hl4 : (W3.putObj (w.heap.size + 1) (.loop (rec .ready))).heap[w.heap.size + 1]? = some (.loop (rec .ready)) := World.putObj_heap_same (Array.getElem?_eq_some_iff.1 hl3).1
     have hk4 : (W3.putObj (w.heap.size + 1) (.loop (rec .ready))).heap[w.heap.size]? = some (.deferred (some [])) := (World.putObj_heap_other (by omega)).trans (hk3.same _ _ (Nat.le_refl _) hk2 rfl)
     rw [hrec] at hr hi4 hl4 hk4 ⊢
     exact ⟨_, _, hr, rfl, hi4, hl4, hk4⟩
   | ret => exact hp.elim
   | exit id => exact hp.elim
   | goto t => exact hp.elim
   | panic ch => exact hp.elim
   | outgrown => exact hp.elim
  ·rintro e W2 ⟨⟨v, rfl⟩, hi, hl, hk⟩
   exact ⟨none, _, by have := run_endLoop (P := Tryd.prog) hl (by rw [hrec]; simp); rw [hrec] at this; exact this, hdone _ _ (Nat.le_refl _) (hI.putObj _ hi (by omega) hl rfl) ((World.putObj_heap_other (by omega)).trans hk)⟩
end Go.Proofs.YtclogekfdmikpaaDoor

/- A plan in memory that grows; the walk of lead. -/
namespace Go.Proofs.YtclogekfdmikpaaDoor
open Go.RowKit Go.Shelf
set_option linter.unusedVariables false
set_option linter.unusedSimpArgs false
attribute [local go_sem] Oper.semAt_some

def behA (l : Pl) : List Value := l.flatMap (fun e => (nsA e.2).toList)
theorem nsA_len (S : Nat) : (nsA S).toList.length = 7 := rfl
theorem nsA_get (S i : Nat) (h : i < 7) : (nsA S).toList[i]? = some (nwV S i) := by
 match i, h with
 | 0, _ => rfl
 | 1, _ => rfl
 | 2, _ => rfl
 | 3, _ => rfl
 | 4, _ => rfl
 | 5, _ => rfl
 | 6, _ => rfl
theorem behA_len : (l : Pl) → (behA l).length = l.length * 7
 | [] => rfl
 | e :: l => by
   have := behA_len l
   simp only [behA] at this ⊢
   rw [List.flatMap_cons, List.length_append, this, nsA_len, List.length_cons]
   omega
theorem behA_get : (l : Pl) → (p i : Nat) → (hp : p < l.length) → i < 7 → (behA l)[p * 7 + i]? = some (nwV l[p].2 i)
 | e :: l, 0, i, _, hi => by
   show ((nsA e.2).toList ++ behA l)[0 * 7 + i]? = _
   rw [List.getElem?_append_left (by rw [nsA_len]; omega), Nat.zero_mul, Nat.zero_add, nsA_get _ _ hi]
   rfl
 | e :: l, p + 1, i, hp, hi => by
   show ((nsA e.2).toList ++ behA l)[(p + 1) * 7 + i]? = _
   rw [List.getElem?_append_right (by rw [nsA_len]; omega), nsA_len, show (p + 1) * 7 + i - 7 = p * 7 + i by omega]
   exact behA_get l p i (by simpa using hp) hi
theorem behA_snoc (l : Pl) (e : List Int × Nat) : behA (l ++ [e]) = behA l ++ (nsA e.2).toList := by simp [behA]
theorem beh_join {w w' : World} {n0 g cap p T : Nat} {l : Pl} {cur cs' : Array Value} (h : w.ownsRow n0 120 7 (.slice (some ⟨g, 0, none⟩) l.length cap) l.length (behA l)) (hp : p < l.length)
 (hc : w.heap[g]? = some (.cells cur 120)) (hc' : w'.heap[g]? = some (.cells cs' 120)) (hj : JnP cur cs' (p * 7) 7 l[p].2 T) :
 w'.ownsRow n0 120 7 (.slice (some ⟨g, 0, none⟩) l.length cap) l.length (behA (l.modify p (fun e => (e.1, e.2 ||| T)))) := by
 refine ⟨by rw [behA_len, List.length_modify], .inr ?_⟩
 rcases h.2 with ⟨hv, _⟩ | ⟨g', cap', cur', hv, hb, hg, hnc, hm, hs, ht⟩
 ·cases hv
 ·cases hv
  rw [hc] at hg
  cases hg
  refine ⟨g, cap, cs', rfl, hb, hc', hnc, hm, by rw [hj.size]; exact hs, ?_⟩
  apply List.ext_getElem?
  intro j
  by_cases hj7 : j < l.length * 7
  ·rw [List.getElem?_take, if_pos hj7, Array.getElem?_toList]
   obtain ⟨q, i, hi, rfl⟩ : ∃ q i, i < 7 ∧ j = q * 7 + i := ⟨j / 7, j % 7, Nat.mod_lt _ (by decide), by omega⟩
   have hq : q < l.length := by omega
   rw [behA_get _ q i (by rw [List.length_modify]; exact hq) hi]
   by_cases e : q = p
   ·subst e
    rw [hj.done i hi]
    simp [List.getElem_modify]
   ·rw [hj.rest (q * 7 + i) (by omega)]
    have h1 := behA_get l q i hq hi
    rw [← ht, List.getElem?_take, if_pos hj7, Array.getElem?_toList] at h1
    rw [h1, List.getElem_modify, if_neg (fun e' => e e'.symm)]
  ·rw [List.getElem?_eq_none (by simp; omega), List.getElem?_eq_none (by rw [behA_len, List.length_modify]; omega)]
structure PlanAt (n0 : Nat) (w : World) (bp : Nat) (cs : Array Value) (v : Value) (wh : Bool) (l : Pl) : Prop where
 blk : w.heap[bp]? = some (.cells cs 142)
 size : cs.size = 185
 low : n0 ≤ bp
 wh : cs[15]? = some (.bool wh)
 tk : ∀ c, c < 24 → NsIn cs (16 + c * 7) (tkM (Int.ofNat c) l 0)
 beh : cs[184]? = some v
 own : w.ownsRow n0 120 7 v l.length (behA l)
 few : l.length ≤ 448
 apart : v.ownBlock ≠ some bp
structure FrS (w w' : World) : Prop where
 size : w.heap.size ≤ w'.heap.size
 same : ∀ (b : Nat) (cs : Array Value) (t : TypeId) (fr : Nat × Nat), w.heap[b]? = some (Obj.cells cs t fr) → t ≠ 120 → t ≠ 142 → w'.heap[b]? = some (Obj.cells cs t fr)
theorem FrS.refl (w : World) : FrS w w := ⟨Nat.le_refl _, fun _ _ _ _ h _ _ => h⟩
theorem FrS.trans {a b c : World} (h : FrS a b) (k : FrS b c) : FrS a c := ⟨Nat.le_trans h.size k.size, fun i cs t fr hi h1 h2 => k.same i cs t fr (h.same i cs t fr hi h1 h2) h1 h2⟩
theorem FrS.below {a b : World} (h : Below a.heap.size a b) : FrS a b := ⟨h.size, fun i cs t fr hi _ _ => (h.block i (Array.getElem?_eq_some_iff.1 hi).1).trans hi⟩
theorem FrS.grown {a b : World} {g : Nat} {cs : Array Value} {t : TypeId} {fr : Nat × Nat} (h : a.grownBy b (some g)) (hg : a.heap[g]? = some (.cells cs t fr)) (ht : t = 120 ∨ t = 142) : FrS a b :=
 ⟨h.size, fun i cs' t' fr' hi h1 h2 => (h.block i (Array.getElem?_eq_some_iff.1 hi).1 (fun e => by
  have := Option.some.inj e
  subst this
  rw [hg] at hi
  cases hi
  rcases ht with ht | ht
  ·exact h1 ht
  ·exact h2 ht)).trans hi⟩
theorem grown_none {a b : World} (h : Below a.heap.size a b) (row : Option Nat) : a.grownBy b row := ⟨h.os, h.tape, h.output, h.size, fun k hk _ => h.block k hk⟩
theorem cell_same {W W' : World} {a : Addr} (h : W'.heap[a.block]? = W.heap[a.block]?) : W'.cell? a = W.cell? a := by unfold World.cell?; rw [h]
theorem own_lt {w : World} {B : Nat} {e : TypeId} {s n : Nat} {v : Value} {xs : List Value} (h : w.ownsRow B e s v n xs) {g : Nat} (hg : v.ownBlock = some g) : B ≤ g ∧ g < w.heap.size ∧ ∃ cur, w.heap[g]? = some (.cells cur e (0, 0)) := by
 rcases h.2 with ⟨rfl, _⟩ | ⟨g', cap, cur, rfl, hb, hgg, _⟩
 ·cases hg
 ·cases hg
  exact ⟨hb, (Array.getElem?_eq_some_iff.1 hgg).1, cur, hgg⟩
theorem leadF_len (T : Nat) : (ps : List Nat) → (l : Pl) → (leadF T l ps).length = l.length
 | [], l => rfl
 | p :: ps, l => by
   show (leadF T (l.modify p _) ps).length = _
   rw [leadF_len T ps, List.length_modify]
theorem leadF_snoc (T : Nat) (l : Pl) (ps : List Nat) (p : Nat) : leadF T l (ps ++ [p]) = (leadF T l ps).modify p (fun e => (e.1, e.2 ||| T)) := by simp [leadF]
theorem tkM_lead (c : Int) (S T : Nat) (l : Pl) : tkM c (leadP S T l) 0 = tkM c l 0 := by
 apply Nat.eq_of_testBit_eq
 intro p
 rw [Bool.eq_iff_iff, tkM_bit, tkM_bit]
 simp only [leadP_get, Option.map_eq_some_iff]
 constructor
 ·rintro ⟨j, e, h1, ⟨e', h2, rfl⟩, h3⟩
  refine ⟨j, e', h1, h2, ?_⟩
  split at h3 <;> exact h3
 ·rintro ⟨j, e, h1, h2, h3⟩
  refine ⟨j, _, h1, ⟨e, h2, rfl⟩, ?_⟩
  split <;> exact h3
set_option maxRecDepth 100000 in
set_option maxHeartbeats 4000000 in
theorem lead_any (w0 w : World) (bp : Nat) (cs : Array Value) (v : Value) (wh : Bool) (l : Pl) (S T : Nat) (hb0 : Below w0.heap.size w0 w) (hT : TabD w0) (h : PlanAt w0.heap.size w bp cs v wh l) (hS : ∀ p, S.testBit p = true → p < l.length) :
 Calls Tryd.prog 89 #[.pointer (some ⟨bp, 0, none⟩), .agg (nsA S), .agg (nsA T)] w fun e w' => e = .returned (.tuple #[]) ∧ PlanAt w0.heap.size w' bp cs v wh (leadP S T l) ∧ Below w0.heap.size w0 w' ∧ FrS w w' := by
 obtain ⟨wA, hwA⟩ : ∃ wA, wA = ((w.alloc (.cells #[.pointer (some ⟨bp, 0, none⟩)] 114)).alloc (.cells (nsA S) 120)).alloc (.cells (nsA T) 120) := ⟨_, rfl⟩
 obtain ⟨H, hH⟩ : ∃ H, H = w.heap.size := ⟨_, rfl⟩
 have hBA : Below w.heap.size w wA := by rw [hwA]; exact (((Below.refl _ w).alloc (Nat.le_refl _) _).alloc (by simp) _).alloc (by simp; omega) _
 have HBA : Hid (Below w.heap.size w wA) := hBA
 have HA0 : Hid (wA.heap[H]? = some (.cells #[.pointer (some ⟨bp, 0, none⟩)] 114)) := by
  show _ = _
  rw [hwA, hH]
  exact ((((Below.refl _ (w.alloc _)).alloc (Nat.le_refl _) _).alloc (by simp) _).block w.heap.size (by simp)).trans (heap_alloc_new w _)
 have HA1 : Hid (wA.heap[H + 1]? = some (.cells (nsA S) 120)) := by
  show _ = _
  rw [hwA, hH]
  have := heap_alloc_new (w.alloc (.cells #[.pointer (some ⟨bp, 0, none⟩)] 114)) (.cells (nsA S) 120)
  rw [show (w.alloc (.cells #[.pointer (some ⟨bp, 0, none⟩)] 114)).heap.size = w.heap.size + 1 by simp] at this
  exact (((Below.refl _ ((w.alloc _).alloc _)).alloc (Nat.le_refl _) _).block (w.heap.size + 1) (by simp)).trans this
 have HA2 : Hid (wA.heap[H + 1 + 1]? = some (.cells (nsA T) 120)) := by
  show _ = _
  rw [hwA, hH]
  have := heap_alloc_new ((w.alloc (.cells #[.pointer (some ⟨bp, 0, none⟩)] 114)).alloc (.cells (nsA S) 120)) (.cells (nsA T) 120)
  rw [show ((w.alloc (.cells #[.pointer (some ⟨bp, 0, none⟩)] 114)).alloc (.cells (nsA S) 120)).heap.size = w.heap.size + 1 + 1 by simp] at this
  exact this
 have HAS : Hid (wA.heap.size = H + 1 + 1 + 1) := by show _ = _; rw [hwA, hH]; simp
 have HH : Hid (H = w.heap.size) := hH
 have HP : Hid (PlanAt w0.heap.size w bp cs v wh l) := h
 have HS : Hid (∀ p, S.testBit p = true → p < l.length) := hS
 have HB0 : Hid (Below w0.heap.size w0 w) := hb0
 have HBA0 : Hid (Below w0.heap.size w0 wA) := hb0.trans (hBA.mono hb0.size)
 have HTD : Hid (TabD w0) := hT
 have HbpA : Hid (wA.heap[bp]? = some (.cells cs 142)) := (hBA.block bp (Array.getElem?_eq_some_iff.1 h.blk).1).trans h.blk
 have HOA : Hid (wA.ownsRow w0.heap.size 120 7 v l.length (behA l)) := own_later5 h.own hBA
 obtain ⟨va, vc, hv⟩ := own_sl1 h.own
 subst hv
 have hmf : ∀ (fn : Fn) (first cap : Array Value) (w : World), (Instr.makeFunc fn first cap).run Tryd.prog w = .ok (.func fn first cap) w := fun _ _ _ _ => rfl
 have g0 : wA.cell? ⟨H + 1, 0, none⟩ = some (.int .u64 (nw S 0 : Int)) := cell_of_row wA (H + 1) 0 _ _ _ HA1.out
 have g1 : wA.cell? ⟨H + 1, 1, none⟩ = some (.int .u64 (nw S 1 : Int)) := cell_of_row wA (H + 1) 1 _ _ _ HA1.out
 have g2 : wA.cell? ⟨H + 1, 2, none⟩ = some (.int .u64 (nw S 2 : Int)) := cell_of_row wA (H + 1) 2 _ _ _ HA1.out
 have g3 : wA.cell? ⟨H + 1, 3, none⟩ = some (.int .u64 (nw S 3 : Int)) := cell_of_row wA (H + 1) 3 _ _ _ HA1.out
 have g4 : wA.cell? ⟨H + 1, 4, none⟩ = some (.int .u64 (nw S 4 : Int)) := cell_of_row wA (H + 1) 4 _ _ _ HA1.out
 have g5 : wA.cell? ⟨H + 1, 5, none⟩ = some (.int .u64 (nw S 5 : Int)) := cell_of_row wA (H + 1) 5 _ _ _ HA1.out
 have g6 : wA.cell? ⟨H + 1, 6, none⟩ = some (.int .u64 (nw S 6 : Int)) := cell_of_row wA (H + 1) 6 _ _ _ HA1.out
 obtain ⟨VS, hVS⟩ : ∃ VS, VS = Value.agg (nsA S) := ⟨_, rfl⟩
 obtain ⟨VT, hVT⟩ : ∃ VT, VT = Value.agg (nsA T) := ⟨_, rfl⟩
 have HVS : Hid (VS = Value.agg (nsA S)) := hVS
 clear h hS hb0 hT hBA
 refine callsIn_wide.1 (callsIn_of_wp_marks (n := 3) Tryd.func89 rfl trivial (wpIn_wide.2 ?_) rfl)
 simp only [Tryd.ntmps89, List.size_toArray, List.length_cons, List.length_nil, Nat.reduceAdd, Nat.reduceSub, Array.replicate_succ, Array.replicate_zero, List.push_toArray, List.append_toArray, List.nil_append, List.cons_append]
 go_upto_region 1 with fail
 rw [← hH, ← hwA]
 clear hwA hH
 go_wp2
 rw [show Value.agg #[.int .u64 (nw S 0 : Int), .int .u64 (nw S 1 : Int), .int .u64 (nw S 2 : Int), .int .u64 (nw S 3 : Int), .int .u64 (nw S 4 : Int), .int .u64 (nw S 5 : Int), .int .u64 (nw S 6 : Int)] = VS from hVS.symm, ← hVS, ← hVT]
 clear hVS hVT g0 g1 g2 g3 g4 g5 g6
 refine wp_each S (by rw [← HVS.out]; rfl) (fun pre W => wA.grownBy W (Value.slice va l.length vc).ownBlock ∧ W.ownsRow w0.heap.size 120 7 (.slice va l.length vc) l.length (behA (leadF T l pre))) ?own ?tab ?start
  (fun x => { tmps := #[.pointer (some ⟨bp, 0, none⟩), VS, VT, .pointer (some ⟨H, 0, none⟩), .pointer (some ⟨H + 1, 0, none⟩), .pointer (some ⟨H + 1 + 1, 0, none⟩), .int .i64 (x : Int), VS, .func (.func 82) #[VS] #[], .int .i64 (x : Int), undef, undef, undef, undef, undef, undef, undef], defers := [] }) ?assign ?body ?done
 case own =>
  rintro pre A B row ⟨h1, h2⟩ hgr hr
  have hne : ∀ r, row = some r → wA.heap.size ≤ r := fun r e => (hr r e).1
  have hg2 : wA.grownBy B (Value.slice va l.length vc).ownBlock := by
   refine ⟨hgr.os.trans h1.os, hgr.tape.trans h1.tape, hgr.output.trans h1.output, Nat.le_trans h1.size hgr.size, fun k hk hn => ?_⟩
   exact (hgr.block k (Nat.lt_of_lt_of_le hk h1.size) (fun e => by have := hne k e.symm; omega)).trans (h1.block k hk hn)
  refine ⟨hg2, h2.kept hgr ?_⟩
  cases hx : (Value.slice va l.length vc).ownBlock with
  | none => exact .inl rfl
  | some g => exact .inr fun e => by have h3 := hne g e.symm; have h4 := (own_lt HOA.out hx).2.1; omega
 case tab =>
  rintro pre W ⟨h1, h2⟩ j hj
  have hc := HTD.out j hj
  have hlt := World.block_lt_of_cell? w0 _ hc
  refine (cell_same ?_).trans ((HBA0.out.cell hlt).trans hc)
  refine h1.block _ (Nat.lt_of_lt_of_le hlt HBA0.out.size) (fun e => ?_)
  have := (own_lt HOA.out e.symm).1
  have h2 : (⟨0, j, none⟩ : Addr).block < w0.heap.size := hlt
  omega
 case start => exact ⟨grown_none (Below.refl _ _) _, HOA.out⟩
 case assign =>
  intro l x W K hK
  gi_wp2
  exact hK
 case body =>
  rintro ll pre x W hx hSx ⟨hgr, hown⟩
  have hxl : x < l.length := HS.out x hSx
  have hxi : (x : Int) < (l.length : Int) := by omega
  obtain ⟨n, hn⟩ : ∃ n, n = l.length := ⟨_, rfl⟩
  have hle : n ≤ 448 := by rw [hn]; exact HP.out.few
  have HG : Hid (wA.grownBy W (Value.slice va l.length vc).ownBlock) := hgr
  have HO : Hid (W.ownsRow w0.heap.size 120 7 (.slice va l.length vc) l.length (behA (leadF T l pre))) := hown
  obtain ⟨g, hva⟩ : ∃ g, va = some ⟨g, 0, none⟩ := by
   rcases hown.2 with ⟨_, h0⟩ | ⟨g, _, _, hv, _⟩
   ·omega
   ·cases hv; exact ⟨g, rfl⟩
  subst hva
  obtain ⟨hg1, hg2, cur, hcur⟩ := own_lt hown (g := g) rfl
  obtain ⟨_, hgA, curA, hcurA⟩ := own_lt HOA.out (g := g) rfl
  have hgne : ∀ b cs t fr, wA.heap[b]? = some (Obj.cells cs t fr) → t ≠ 120 → b ≠ g := fun b cs t fr hb ht e => by
   subst e; rw [hcurA] at hb; cases hb; exact ht rfl
  have hkeep : ∀ b, b < wA.heap.size → b ≠ g → W.heap[b]? = wA.heap[b]? := fun b hb hne => hgr.block b hb (fun e => hne (Option.some.inj e))
  have hH0 := (hkeep H (Array.getElem?_eq_some_iff.1 HA0.out).1 (hgne _ _ _ _ HA0.out (by decide))).trans HA0.out
  have hg2' : g ≠ H + 1 + 1 := by
   have h1 := (own_lt HP.out.own (g := g) rfl).2.1
   rw [← HH.out] at h1
   omega
  have hH2 := (hkeep (H + 1 + 1) (Array.getElem?_eq_some_iff.1 HA2.out).1 (fun e => hg2' e.symm)).trans HA2.out
  have hbp := (hkeep bp (Array.getElem?_eq_some_iff.1 HbpA.out).1 (hgne _ _ _ _ HbpA.out (by decide))).trans HbpA.out
  have c0 : W.cell? ⟨H, 0, none⟩ = some (.pointer (some ⟨bp, 0, none⟩)) := cell_of_row W H 0 _ _ _ hH0
  have c1 : W.cell? ⟨bp, 184, none⟩ = some (.slice (some ⟨g, 0, none⟩) n vc) := by
   rw [hn]
   exact (cell_of_row W bp 184 _ _ _ hbp).trans HP.out.beh
  have hlx : x < (leadF T l pre).length := by rw [leadF_len]; exact hxl
  have hns : NsIn cur (x * 7) (leadF T l pre)[x].2 := fun i hi => by
   rcases hown.2 with ⟨hv, _⟩ | ⟨g', cap', cur', hv, _, hgg, _, _, _, ht⟩
   ·cases hv
   ·cases hv
    rw [hcur] at hgg
    cases hgg
    have h1 := behA_get _ x i hlx hi
    rw [← ht, List.getElem?_take, if_pos (by omega), Array.getElem?_toList] at h1
    exact h1
  have HC : Hid (Calls Tryd.prog 83 #[.pointer (some ⟨g, x * 7, none⟩), .pointer (some ⟨H + 1 + 1, 0, none⟩)] W fun e w' => e = .returned (.tuple #[]) ∧ W.grownBy w' (some g) ∧ ∃ cs', w'.heap[g]? = some (.cells cs' 120) ∧ JnP cur cs' (x * 7) 7 (leadF T l pre)[x].2 T) :=
   join_any (leadF T l pre)[x].2 T W g (x * 7) (H + 1 + 1) 0 cur (nsA T) _ _ _ hg2' hcur hH2 hns (fun i hi => by rw [Nat.zero_add, ← Array.getElem?_toList]; exact nsA_get T i hi)
  have HCUR : Hid (W.heap[g]? = some (.cells cur 120)) := hcur
  have hxn : (x : Int) < (n : Int) := by omega
  clear hgr hown hcur hkeep hgne hH0 hH2 hbp hns hcurA
  gi_wp2
  refine ⟨trivial, ?_⟩
  refine (CallsIn.inRound ll (callsIn_wide.2 HC.out)).mono ?_
  rintro e w3 ⟨rfl, hg3, cs', hcs', hj⟩
  have HF : Hid (KeepsFrom wA.heap.size W w3 ∧ wA.grownBy w3 (Value.slice (some ⟨g, 0, none⟩) l.length vc).ownBlock ∧ w3.ownsRow w0.heap.size 120 7 (.slice (some ⟨g, 0, none⟩) l.length vc) l.length (behA (leadF T l (pre ++ [x])))) := by
   refine ⟨KeepsFrom.of_grownBy hg3 (fun j e => by cases e; exact hgA), grown_all HG.out hg3, ?_⟩
   have h1 := beh_join (l := leadF T l pre) (T := T) (by rw [leadF_len]; exact HO.out) hlx HCUR.out hcs' hj
   rw [leadF_len, ← leadF_snoc] at h1
   exact h1
  clear hg3 hcs' hj HC
  gi_wp2
  exact HF.out
 case done =>
  rintro D W hD ⟨hgr, hown⟩ hdf
  go_wp2
  refine ⟨by simp, .inl ⟨_, _, rfl, run_takeDeferred hdf, ?_⟩⟩
  refine ⟨_, results_none rfl _ _ _, rfl, ?_⟩
  have hbel : Below w0.heap.size wA W := (Below.refl w0.heap.size wA).grown hgr (Nat.le_trans HBA0.out.size (Nat.le_refl _)) (fun k e => (own_lt HOA.out e).1)
  have hgD := grownBy_putObj' W D (.deferred none)
  have hlD : ∀ b, b < wA.heap.size → (W.putObj D (.deferred none)).heap[b]? = W.heap[b]? := fun b hb => World.putObj_heap_other (by omega)
  have hkeep : ∀ b cs t fr, wA.heap[b]? = some (Obj.cells cs t fr) → t ≠ 120 → (W.putObj D (.deferred none)).heap[b]? = some (Obj.cells cs t fr) := fun b cs t fr hb ht => by
   have hlt := (Array.getElem?_eq_some_iff.1 hb).1
   refine (hlD b hlt).trans ((hgr.block b hlt (fun e => ?_)).trans hb)
   obtain ⟨_, _, cur, hcur⟩ := own_lt HOA.out e.symm
   rw [hb] at hcur
   cases hcur
   exact ht rfl
  have hP := HP.out
  have hall : leadF T l (eachL S) = leadP S T l := leadF_all S T l (fun p hp => Nat.lt_of_lt_of_le (HS.out p hp) hP.few)
  refine ⟨⟨hkeep _ _ _ _ HbpA.out (by decide), hP.size, hP.low, hP.wh, fun c hc => by rw [tkM_lead]; exact hP.tk c hc, hP.beh, ?_, by rw [leadP_len]; exact hP.few, hP.apart⟩, ?_, ?_⟩
  ·rw [leadP_len, ← hall]
   refine hown.kept hgD ?_
   cases hx : (Value.slice va l.length vc).ownBlock with
   | none => exact .inl rfl
   | some g => exact .inr fun e => by have h4 := (own_lt HOA.out hx).2.1; have := Option.some.inj e; omega
  ·exact (HBA0.out.trans hbel).grown hgD (HBA0.out.trans hbel).size (fun k e => by cases e; have := HBA0.out.size; omega)
  ·exact ⟨Nat.le_trans HBA.out.size (Nat.le_trans hgr.size hgD.size), fun b cs t fr hb h1 _ => hkeep b cs t fr ((HBA.out.block b (Array.getElem?_eq_some_iff.1 hb).1).trans hb) h1⟩
end Go.Proofs.YtclogekfdmikpaaDoor
