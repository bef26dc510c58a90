/- In one text: DfaRk, DfaLa, DfaLb, DfaLc, DfaLd, BasO, DfaFo, DfaFr, BasT. -/
import Derived.Test.YtpmmmgjiekikeaaDoorJ20
import Derived.Test.YtpmmmgjiekikeaaDoorJ01
import Derived.SizedLaws
import Derived.ProofKit
import Derived.OpenShut
import Derived.ChangeOld
import Derived.Below
import Derived.Test.YtpmmmgjiekikeaaDoorJ02
import Derived.Test.YtpmmmgjiekikeaaDoorCards
import Derived.Test.YtpmmmgjiekikeaaDoorTie
import Derived.Test.YtpmmmgjiekikeaaDoorJ03
import Derived.ShutString
import Derived.ChangeVars
import Derived.JoinedOf
import Derived.LaidLaws
import Derived.LaidHandle
import Derived.Lay
import Derived.HandedShaped
import Derived.Shelf.Vars
import Derived.Lib.LaidTab
import Derived.Stop.LaidErr
/- The walk of few. -/
namespace Go.Proofs.YtpmmmgjiekikeaaDoor
open Go.RowKit Go.Shelf Go.Maps
set_option linter.unusedVariables false
set_option linter.unusedSimpArgs false

theorem info_ex : (Tryd.prog.info? 40).map (fun i => (i.zero, i.size, i.bytes)) = some (some (.agg #[.int .i64 0, .slice none 0 0, .slice none 0 0, .bool false]), 4, 64) := by kernel_rfl
theorem info_rx : (Tryd.prog.info? 41).map (fun i => (i.zero, i.size, i.bytes)) = some (some (.agg #[.int .i64 0, .slice none 0 0, .slice none 0 0, .bool false]), 4, 64) := by kernel_rfl
/-- What few leaves. -/
def FewP (D : Nat) (l : List (Nd × Bool)) (w : World) (e : Ending) (w' : World) : Prop :=
  Below w.heap.size w w' ∧ ∃ (xs : List (Nd × Bool)) (fl : List Value) (a4 a5 : Option Addr) (c4 c5 : Nat), e = .returned (.tuple #[.slice a4 xs.length c4, .slice a5 xs.length c5]) ∧ xs.length ≤ 8 ∧ (∀ x, x ∈ xs → x ∈ l ∧ (x.1.cnt ≤ 400 → x.1.cnt ≤ 40)) ∧ FlX w.heap.size w D xs fl ∧
    w'.ownsRow w.heap.size 40 4 (.slice a4 xs.length c4) xs.length fl ∧ w'.ownsRow w.heap.size 41 4 (.slice a5 xs.length c5) xs.length fl
set_option maxRecDepth 100000 in
set_option maxHeartbeats 8000000 in
theorem few_any (D : Nat) (l : List (Nd × Bool)) (a : Option Addr) (cp : Nat) (w : World) (hx : XRow w.heap.size w D a l) (hl : l.length ≤ 2600000000000) :
    Calls Tryd.prog 13 #[.slice a l.length cp] w (FewP D l w) := by
  obtain ⟨L, hL⟩ : ∃ L, L = l.length := ⟨_, rfl⟩
  have HL : Hid (L = l.length) := hL
  have hLi : (L : Int) ≤ 2600000000000 := by omega
  have HX : Hid (XRow w.heap.size w D a l ∧ True) := ⟨hx, trivial⟩
  obtain ⟨j0, ji, jz0, jz1, jz2⟩ := info_parts info_ex
  have HJ : Hid (Tryd.prog.info? 40 = some j0 ∧ j0.zero = some (.agg #[.int .i64 0, .slice none 0 0, .slice none 0 0, .bool false]) ∧ j0.size = 4 ∧ j0.bytes = 64) := ⟨ji, jz0, jz1, jz2⟩
  obtain ⟨j1, ki, kz0, kz1, kz2⟩ := info_parts info_rx
  have HK : Hid (Tryd.prog.info? 41 = some j1 ∧ j1.zero = some (.agg #[.int .i64 0, .slice none 0 0, .slice none 0 0, .bool false]) ∧ j1.size = 4 ∧ j1.bytes = 64) := ⟨ki, kz0, kz1, kz2⟩
  rw [← hL]
  clear hx hl hL ji jz0 jz1 jz2 ki kz0 kz1 kz2
  go_enter Tryd.func13, Tryd.ntmps13
  go_wp2_with fail
  go_loopw [4, 5, 6] (fun x4 x5 x6 wr => ∃ (k n c4 c5 : Nat) (a4 a5 : Option Addr) (xs : List (Nd × Bool)) (fl : List Value), k ≤ 8 ∧ k ≤ L ∧ n ≤ k ∧ n = xs.length ∧ x6 = .int .i64 (k : Int) ∧ x4 = .slice a4 n c4 ∧ x5 = .slice a5 n c5 ∧ (∀ x, x ∈ xs → x ∈ l ∧ (x.1.cnt ≤ 400 → x.1.cnt ≤ 40)) ∧ FlX w.heap.size w D xs fl ∧ wr.ownsRow w.heap.size 40 4 (.slice a4 n c4) n fl ∧ wr.ownsRow w.heap.size 41 4 (.slice a5 n c5) n fl ∧ Below w.heap.size w wr) (fun _ _ x6 _ => 8 - (intOf x6).toNat)
  case atStart => exact ⟨0, 0, 0, 0, none, none, [], [], by omega, by omega, by omega, rfl, rfl, rfl, rfl, fun x hx => by simp at hx, FlX.nil _ _ _, ⟨rfl, .inl ⟨rfl, rfl⟩⟩, ⟨rfl, .inl ⟨rfl, rfl⟩⟩, Below.refl _ _⟩
  case round =>
    obtain ⟨k, n, c4, c5, a4, a5, xs, fl, hk8, hkL, hnk, hn, hx6, hx4, hx5, hxs, hfl, ho4, ho5, hbw⟩ := hrel
    subst hx6 hx4 hx5
    have HXS : Hid (n = xs.length ∧ (∀ x, x ∈ xs → x ∈ l ∧ (x.1.cnt ≤ 400 → x.1.cnt ≤ 40)) ∧ FlX w.heap.size w D xs fl) := ⟨hn, hxs, hfl⟩
    have HO : Hid (wr.ownsRow w.heap.size 40 4 (.slice a4 n c4) n fl ∧ wr.ownsRow w.heap.size 41 4 (.slice a5 n c5) n fl) := ⟨ho4, ho5⟩
    have HBW : Hid (Below w.heap.size w wr) := hbw
    clear hn hxs hfl ho4 ho5 hbw
    by_cases hlt : k < L
    · by_cases hlt8 : k < 8
      · have hkl : k < l.length := by rw [← HL.out]; exact hlt
        obtain ⟨b, off, rfl, hcl⟩ := HX.out.1 (by omega)
        obtain ⟨us, hin, hus, hwh⟩ := hcl k hkl
        obtain ⟨ca, cc, pa, pc, rfl⟩ := hin.three
        obtain ⟨x, hx⟩ : ∃ x, x = l[k] := ⟨_, rfl⟩
        rw [← hx] at hin hus hwh
        have c0' := hus 0 _ rfl
        have c1' := hus 1 _ rfl
        have c2' := hus 2 _ rfl
        obtain ⟨op, hop⟩ : ∃ op, op = x.1.op := ⟨_, rfl⟩
        obtain ⟨cn, hcn⟩ : ∃ cn, cn = x.1.cl.length := ⟨_, rfl⟩
        obtain ⟨K, hK⟩ : ∃ K, K = (toL x.1.kids).length := ⟨_, rfl⟩
        obtain ⟨wh, hwhe⟩ : ∃ wh, wh = x.2 := ⟨_, rfl⟩
        rw [← hop] at c0'
        rw [← hcn] at c1'
        rw [← hK] at c2'
        rw [← hwhe] at hwh
        have HIN : Hid (InV w.heap.size w D x.1 [.int .i64 op, .slice ca cn cc, .slice pa K pc] ∧ x ∈ l ∧ wh = x.2) := ⟨by rw [hop, hcn, hK]; exact hin, by rw [hx]; exact List.getElem_mem hkl, hwhe⟩
        have HCL : Hid (∀ V : World, Below w.heap.size w V → V.cell? ⟨b, off + k * 4, none⟩ = some (.int .i64 op) ∧ V.cell? ⟨b, off + k * 4 + 1, none⟩ = some (.slice ca cn cc) ∧ V.cell? ⟨b, off + k * 4 + 2, none⟩ = some (.slice pa K pc) ∧ V.cell? ⟨b, off + k * 4 + 3, none⟩ = some (.bool wh)) := fun V hV => ⟨upC hV c0', upC hV c1', upC hV c2', upC hV hwh⟩
        have HCO : Hid (Calls Tryd.prog 22 #[.agg #[.int .i64 op, .slice ca cn cc, .slice pa K pc]] wr fun e w' => ∃ v : Int, e = .returned (.int .i64 v) ∧ (x.1.cnt ≤ 400 → v = (x.1.cnt : Int)) ∧ Below wr.heap.size wr w') := by
          rw [hop, hcn, hK]
          exact countX_any D x.1 ca pa cc pc w.heap.size wr (hin.later HBW.out D)
        have HST : Hid (∀ V : World, Below w.heap.size w V → Calls Tryd.prog 23 #[.agg #[.int .i64 op, .slice ca cn cc, .slice pa K pc]] V fun e w' => ∃ t : Int, e = .returned (.int .i64 t) ∧ Below V.heap.size V w') := fun V hV => by
          rw [hop, hcn, hK]
          exact starsX_any D x.1 ca pa cc pc w.heap.size V (hin.later hV D)
        clear hcl hin hus hwh hx c0' c1' c2' hop hcn hK hwhe
        obtain ⟨c0, c1, c2, c3⟩ := HCL.out wr HBW.out
        have hki : (k : Int) < (L : Int) := by omega
        have hk8i : (k : Int) < 8 := by omega
        go_wp2_with fail
        refine HCO.out.mono ?_
        rintro e w1 ⟨v, rfl, hv, hb1⟩
        have HB1 : Hid (Below w.heap.size w w1) := HBW.out.trans (hb1.mono HBW.out.size)
        have HO1 : Hid (w1.ownsRow w.heap.size 40 4 (.slice a4 n c4) n fl ∧ w1.ownsRow w.heap.size 41 4 (.slice a5 n c5) n fl) := ⟨own_later5 HO.out.1 hb1, own_later5 HO.out.2 hb1⟩
        clear c0 c1 c2 c3 hb1 HCO
        by_cases hv40 : v ≤ 40
        · have HCT : Hid (x.1.cnt ≤ 400 → x.1.cnt ≤ 40) := fun h => by have := hv h; omega
          have HS1 := HST.out w1 HB1.out
          have HSC : Hid (Calls Tryd.prog 23 #[.agg #[.int .i64 op, .slice ca cn cc, .slice pa K pc]] w1 fun e w' => ∃ t : Int, e = .returned (.int .i64 t) ∧ Below w1.heap.size w1 w') := HS1
          obtain ⟨c0, c1, c2, c3⟩ := HCL.out w1 HB1.out
          clear hv HS1
          go_wp2_with fail
          refine HSC.out.mono ?_
          rintro e w2 ⟨t, rfl, hb2⟩
          have HB2 : Hid (Below w.heap.size w w2) := HB1.out.trans (hb2.mono HB1.out.size)
          have HO2 : Hid (w2.ownsRow w.heap.size 40 4 (.slice a4 n c4) n fl ∧ w2.ownsRow w.heap.size 41 4 (.slice a5 n c5) n fl) := ⟨own_later5 HO1.out.1 hb2, own_later5 HO1.out.2 hb2⟩
          clear c0 c1 c2 c3 hb2 HSC
          by_cases ht3 : t ≤ 3
          · go_wp2_with fail
            obtain ⟨c0, c1, c2, c3⟩ := HCL.out w2 HB2.out
            have HBS : Hid (w.heap.size ≤ w2.heap.size) := HB2.out.size
            have HF1 : Hid (∀ (V w3 : World) (g3 cap3 : Nat), Below w2.heap.size w2 V → w3.ownsRow w.heap.size 40 4 (.slice (some ⟨g3, 0, none⟩) (n + 1) cap3) (n + 1) (fl ++ [.int .i64 op, .slice ca cn cc, .slice pa K pc, .bool wh]) → V.grownBy w3 (Value.slice a4 n c4).ownBlock → w3.ownsRow w.heap.size 41 4 (.slice a5 n c5) n fl ∧ Below w.heap.size w w3) := fun V w3 g3 cap3 hV q1 q2 => by
              have h4 := own_later5 HO2.out.1 hV
              have h5 := own_later5 HO2.out.2 hV
              have hBV := HB2.out.trans (hV.mono HB2.out.size)
              refine ⟨h5.kept q2 ?_, hBV.grown q2 hBV.size (fun k e => (own_lt h4 e).1)⟩
              cases hx : (Value.slice a5 n c5).ownBlock with
              | none => exact .inl rfl
              | some g =>
                refine .inr fun e => ?_
                obtain ⟨_, _, k1, hk1⟩ := own_lt h5 hx
                obtain ⟨_, _, k2, hk2⟩ := own_lt h4 e.symm
                exact ne_ty hk1 hk2 (by decide) rfl
            go_region_law (refine step_append_lies _ (by rfl) _ _ 24 (by rfl) w.heap.size 40 j0 _ 4 64 Tryd.underlying24 HJ.out.1 HJ.out.2.1 HJ.out.2.2.1 HJ.out.2.2.2 rfl (by decide) (.slice a4 n c4) n fl (by rfl) (own_later5 HO2.out.1 (((Below.refl _ w2).drew).alloc (by simp) _)) ⟨w2.heap.size, 0, none⟩ 1 1 [.int .i64 op, .slice ca cn cc, .slice pa K pc, .bool wh] (by rfl) (by rfl) (World.news_of_block (cs := #[.int .i64 op, .slice ca cn cc, .slice pa K pc, .bool wh]) (t := 40) (fr := (0, 0)) (heap_alloc_new w2.drew _)) (by simp [Value.oneCell']) (by omega) (by unfold maxLen; omega) (by omega) (by have := HBS.out; simp; omega) _ rfl ?_; intro g3 cap3 w3 hown hgrow hat hlt3)
            all_goals
              have HF3 : Hid (w3.ownsRow w.heap.size 41 4 (.slice a5 n c5) n fl ∧ Below w.heap.size w w3) := HF1.out _ _ _ _ (((Below.refl _ w2).drew).alloc (by simp) _) hown hgrow
              have HO3 : Hid (w3.ownsRow w.heap.size 40 4 (.slice (some ⟨g3, 0, none⟩) (n + 1) cap3) (n + 1) (fl ++ [.int .i64 op, .slice ca cn cc, .slice pa K pc, .bool wh])) := hown
              clear hown hgrow hat hlt3 c0 c1 c2 c3 HF1
              obtain ⟨c0, c1, c2, c3⟩ := HCL.out w3 HF3.out.2
              have HF2 : Hid (∀ (w4 : World) (g4 cap4 : Nat), w4.ownsRow w.heap.size 41 4 (.slice (some ⟨g4, 0, none⟩) (n + 1) cap4) (n + 1) (fl ++ [.int .i64 op, .slice ca cn cc, .slice pa K pc, .bool wh]) → (w3.alloc (.cells #[.int .i64 op, .slice ca cn cc, .slice pa K pc, .bool wh] 41)).grownBy w4 (Value.slice a5 n c5).ownBlock → w4.ownsRow w.heap.size 40 4 (.slice (some ⟨g3, 0, none⟩) (n + 1) cap3) (n + 1) (fl ++ [.int .i64 op, .slice ca cn cc, .slice pa K pc, .bool wh]) ∧ Below w.heap.size w w4) := fun w4 g4 cap4 q1 q2 => by
                have hV : Below w3.heap.size w3 (w3.alloc (.cells #[.int .i64 op, .slice ca cn cc, .slice pa K pc, .bool wh] 41)) := (Below.refl _ w3).alloc (Nat.le_refl _) _
                have h4 := own_later5 HO3.out hV
                have h5 := own_later5 HF3.out.1 hV
                have hBV := HF3.out.2.trans (hV.mono HF3.out.2.size)
                refine ⟨h4.kept q2 ?_, hBV.grown q2 hBV.size (fun k e => (own_lt h5 e).1)⟩
                refine .inr fun e => ?_
                obtain ⟨_, _, k1, hk1⟩ := own_lt h4 rfl
                obtain ⟨_, _, k2, hk2⟩ := own_lt h5 e.symm
                exact ne_ty hk1 hk2 (by decide) rfl
              go_wp2_with (at_builtin; refine wpList_append_lies _ rfl _ _ 22 rfl w.heap.size 41 j1 _ 4 64 Tryd.underlying22 HK.out.1 HK.out.2.1 HK.out.2.2.1 HK.out.2.2.2 rfl (by decide) (.slice a5 n c5) n fl rfl (own_later5 HF3.out.1 ((Below.refl _ w3).alloc (Nat.le_refl _) _)) ⟨w3.heap.size, 0, none⟩ 1 1 [.int .i64 op, .slice ca cn cc, .slice pa K pc, .bool wh] rfl rfl (World.news_of_block (cs := #[.int .i64 op, .slice ca cn cc, .slice pa K pc, .bool wh]) (t := 41) (fr := (0, 0)) (heap_alloc_new w3 _)) (by simp [Value.oneCell']) (by omega) (by unfold maxLen; omega) (by omega) (by have := HF3.out.2.size; simp; omega) _ rfl (fun g4 cap4 w4 q1 q2 q3 q4 => ?_); have HF4 : Hid (w4.ownsRow w.heap.size 40 4 (.slice (some ⟨g3, 0, none⟩) (n + 1) cap3) (n + 1) (fl ++ [.int .i64 op, .slice ca cn cc, .slice pa K pc, .bool wh]) ∧ Below w.heap.size w w4) := HF2.out w4 g4 cap4 q1 q2; have HO4 : Hid (w4.ownsRow w.heap.size 41 4 (.slice (some ⟨g4, 0, none⟩) (n + 1) cap4) (n + 1) (fl ++ [.int .i64 op, .slice ca cn cc, .slice pa K pc, .bool wh])) := q1; clear q1 q2 q3 q4)
              go_roundw
              case rel =>
                refine ⟨k + 1, n + 1, cap3, cap4, some ⟨g3, 0, none⟩, some ⟨g4, 0, none⟩, xs ++ [x], fl ++ [.int .i64 op, .slice ca cn cc, .slice pa K pc, .bool wh], by omega, by omega, by omega, by simp [HXS.out.1], by go_num, rfl, rfl, fun y hy => ?_, ?_, HF4.out.1, HO4.out, HF4.out.2⟩
                · rcases List.mem_append.1 hy with hy | hy
                  · exact HXS.out.2.1 y hy
                  · rw [List.mem_singleton.1 hy]; exact ⟨HIN.out.2.1, HCT.out⟩
                · rw [HIN.out.2.2]; exact HXS.out.2.2.snoc HIN.out.1
              case measure => simp [intOf]; omega
          · go_wp2_with fail
            go_roundw
            case rel => exact ⟨k + 1, n, c4, c5, a4, a5, xs, fl, by omega, by omega, by omega, HXS.out.1, by go_num, rfl, rfl, HXS.out.2.1, HXS.out.2.2, HO2.out.1, HO2.out.2, HB2.out⟩
            case measure => simp [intOf]; omega
        · go_wp2_with fail
          go_roundw
          case rel => exact ⟨k + 1, n, c4, c5, a4, a5, xs, fl, by omega, by omega, by omega, HXS.out.1, by go_num, rfl, rfl, HXS.out.2.1, HXS.out.2.2, HO1.out.1, HO1.out.2, HB1.out⟩
          case measure => simp [intOf]; omega
      · obtain rfl : k = 8 := by omega
        have hki : (8 : Int) < (L : Int) := by omega
        go_wp2_with fail
        go_ret2
        refine ⟨HBW.out, xs, fl, a4, a5, c4, c5, ?_, by rw [← HXS.out.1]; omega, HXS.out.2.1, HXS.out.2.2, ?_⟩
        · rw [← HXS.out.1]; rfl
        · rw [← HXS.out.1]; exact HO.out
    · obtain rfl : k = L := by omega
      go_wp2_with fail
      go_ret2
      refine ⟨HBW.out, xs, fl, a4, a5, c4, c5, ?_, by rw [← HXS.out.1]; omega, HXS.out.2.1, HXS.out.2.2, ?_⟩
      · rw [← HXS.out.1]; rfl
      · rw [← HXS.out.1]; exact HO.out
end Go.Proofs.YtpmmmgjiekikeaaDoor

/- What the statements of machines ask, without memory: expressions that fit the same, rows that are told. -/
namespace Go.Proofs.YtpmmmgjiekikeaaDoor
open Go.RowKit
set_option linter.unusedVariables false
set_option linter.unusedSimpArgs false

/-- A machine is the least one of all expressions that fit the same. -/
theorem LeastOf.swap {K : Nat} {xs ys : List (Nd × Bool)} {nx : List (List Nat)} {ou : List Nat} (h : LeastOf K xs nx ou) (he : ∀ w i, outC xs w i ↔ outC ys w i) : LeastOf K ys nx ou :=
  ⟨h.asMet, h.wide, h.apart, h.len, fun w hw i => (h.tells w hw i).trans (he w i)⟩
theorem outC_one {x y : Nd} {wh : Bool} (h : ∀ v, x.fits v ↔ y.fits v) (w : List Nat) (i : Nat) : outC [(x, wh)] w i ↔ outC [(y, wh)] w i := by
  unfold outC
  cases i with
  | zero =>
    constructor
    · rintro ⟨z, hz, u, v, h1, h2, h3⟩
      simp at hz
      subst hz
      exact ⟨(y, wh), rfl, u, v, h1, h2, (h v).1 h3⟩
    · rintro ⟨z, hz, u, v, h1, h2, h3⟩
      simp at hz
      subst hz
      exact ⟨(x, wh), rfl, u, v, h1, h2, (h v).2 h3⟩
  | succ i =>
    constructor
    · rintro ⟨z, hz, _⟩; simp at hz
    · rintro ⟨z, hz, _⟩; simp at hz
/-! Expressions written otherwise. -/
def twN (x : Nd) : Nd := ⟨3, [], ofL [x, x]⟩
def bhN (x : Nd) : Nd := ⟨2, [], ofL [x, nilNd]⟩
def stN (x : Nd) : Nd := ⟨4, [], ofL [x]⟩
def moN (x : Nd) : Nd := ⟨5, [], ofL [⟨2, [], ofL [x, stN x]⟩]⟩
theorem nil_fits (w : List Int) : nilNd.fits w ↔ w = [] := fits_op0 nilNd rfl rfl w
theorem tw_fits (x : Nd) (w : List Int) : (twN x).fits w ↔ x.fits w := by
  unfold twN
  rw [fits_alt]
  simp
theorem bh_fits (x : Nd) (w : List Int) : (bhN x).fits w ↔ x.fits w := by
  unfold bhN
  rw [fits_seq]
  simp only [List.map_cons, List.map_nil]
  rw [seqL_two]
  constructor
  · rintro ⟨u, v, rfl, h1, h2⟩
    rw [nil_fits] at h2
    rw [h2]
    simpa using h1
  · intro h
    exact ⟨w, [], by simp, h, (nil_fits _).2 rfl⟩
theorem mo_fits (x : Nd) (w : List Int) : (moN x).fits w ↔ (stN x).fits w := by
  unfold moN
  rw [fits_opt, fits_seq]
  simp only [List.map_cons, List.map_nil]
  rw [seqL_two]
  have hs : ∀ v, (stN x).fits v ↔ ∃ i, powL x.fits i v := fun v => fits_star x v
  rw [hs, star_twice]
  constructor
  · rintro (h | ⟨u, v, h1, h2, h3⟩)
    · exact .inr h
    · exact .inl ⟨u, v, h1, h2, (hs v).1 h3⟩
  · rintro (⟨u, v, h1, h2, h3⟩ | h)
    · exact .inr ⟨u, v, h1, h2, (hs v).2 h3⟩
    · exact .inl h
theorem ok_deep {x : Nd} (h : x.ok = true) {d : Nat} (hd : x.cnt ≤ d) : okN d x = true := by
  unfold Nd.ok at h
  simp only [Bool.and_eq_true] at h
  exact okN_deep 32 x h.1 d (Nat.le_trans (deep_le x) hd)
theorem bel_node (K : Int) (op : Int) (ns : List Nd) : (⟨op, [], ofL ns⟩ : Nd).bel K = ns.all (Nd.bel K) := by
  rw [bel_eq]
  show (([] : List Int).all (fun c => decide (c < K)) && (toL (ofL ns)).all (Nd.bel K)) = _
  rw [toL_ofL]
  simp
theorem alw_one {K : Int} {x : Nd} {b : Bool} : alwB K [(x, b)] = true ↔ 1 ≤ K ∧ K ≤ 24 ∧ x.ok = true ∧ x.bel K = true := by
  simp [alwB, and_assoc]
theorem nil_ok : okN 1 nilNd = true := by decide
theorem okN_up {d e : Nat} {x : Nd} (h : okN d x = true) (he : x.deep ≤ e) : okN e x = true := okN_deep d x h e he
theorem tw_alw {K : Int} {x : Nd} {b : Bool} (h : alwB K [(x, b)] = true) (hc : x.cnt ≤ 20) : alwB K [(twN x, b)] = true := by
  rw [alw_one] at h ⊢
  obtain ⟨h1, h2, h3, h4⟩ := h
  refine ⟨h1, h2, ok_mk (okN_node 3 [x, x] 31 (by simp [rcB]) (by decide) fun y hy => ?_) ?_, ?_⟩
  · have : y = x := by simpa using hy
    rw [this]; exact ok_deep h3 (by omega)
  · show (⟨3, [], ofL [x, x]⟩ : Nd).cnt ≤ 400
    rw [cnt_node]; simp [cntL]; omega
  · show (⟨3, [], ofL [x, x]⟩ : Nd).bel K = true
    rw [bel_node]; simp [h4]
theorem bh_alw {K : Int} {x : Nd} {b : Bool} (h : alwB K [(x, b)] = true) (hc : x.cnt ≤ 20) : alwB K [(bhN x, b)] = true := by
  rw [alw_one] at h ⊢
  obtain ⟨h1, h2, h3, h4⟩ := h
  refine ⟨h1, h2, ok_mk (okN_node 2 [x, nilNd] 31 (by simp [rcB]) (by decide) fun y hy => ?_) ?_, ?_⟩
  · rcases List.mem_cons.1 hy with rfl | hy
    · exact ok_deep h3 (by omega)
    · rw [List.mem_singleton.1 hy]; decide
  · show (⟨2, [], ofL [x, nilNd]⟩ : Nd).cnt ≤ 400
    have h0 : nilNd.cnt = 1 := by decide
    rw [cnt_node]; simp [cntL, h0]; omega
  · show (⟨2, [], ofL [x, nilNd]⟩ : Nd).bel K = true
    have h0 : nilNd.bel K = true := rfl
    rw [bel_node]; simp [h4, h0]
theorem st_cnt (x : Nd) : (stN x).cnt = 1 + x.cnt := by
  show (⟨4, [], ofL [x]⟩ : Nd).cnt = _
  rw [cnt_node]; simp [cntL]
theorem st_alw {K : Int} {x : Nd} {b : Bool} (h : alwB K [(x, b)] = true) (hc : x.cnt ≤ 20) : alwB K [(stN x, b)] = true := by
  rw [alw_one] at h ⊢
  obtain ⟨h1, h2, h3, h4⟩ := h
  refine ⟨h1, h2, ok_mk (okN_node 4 [x] 31 (by simp [rcB]) (by decide) fun y hy => ?_) ?_, ?_⟩
  · rw [List.mem_singleton.1 hy]; exact ok_deep h3 (by omega)
  · show (stN x).cnt ≤ 400
    rw [st_cnt]; omega
  · show (⟨4, [], ofL [x]⟩ : Nd).bel K = true
    rw [bel_node]; simp [h4]
theorem mo_alw {K : Int} {x : Nd} {b : Bool} (h : alwB K [(x, b)] = true) (hc : x.cnt ≤ 20) : alwB K [(moN x, b)] = true := by
  have hst := st_alw h hc
  rw [alw_one] at h hst ⊢
  obtain ⟨h1, h2, h3, h4⟩ := h
  refine ⟨h1, h2, ok_mk (okN_node 5 [⟨2, [], ofL [x, stN x]⟩] 31 (by simp [rcB]) (by decide) fun y hy => ?_) ?_, ?_⟩
  · rw [List.mem_singleton.1 hy]
    refine okN_node 2 [x, stN x] 30 (by simp [rcB]) (by decide) fun z hz => ?_
    rcases List.mem_cons.1 hz with rfl | hz
    · exact ok_deep h3 (by omega)
    · rw [List.mem_singleton.1 hz]; exact ok_deep hst.2.2.1 (by rw [st_cnt]; omega)
  · show (⟨5, [], ofL [⟨2, [], ofL [x, stN x]⟩]⟩ : Nd).cnt ≤ 400
    rw [cnt_node]
    simp only [cntL, List.map_cons, List.map_nil, List.sum_cons, List.sum_nil]
    rw [cnt_node]
    simp [cntL, st_cnt]
    omega
  · show (⟨5, [], ofL [⟨2, [], ofL [x, stN x]⟩]⟩ : Nd).bel K = true
    rw [bel_node]
    simp only [List.all_cons, List.all_nil, Bool.and_true]
    rw [bel_node]
    simp [h4, hst.2.2.2]
/-! What a machine tells behind each beginning. -/
theorem runO_len (nx : List (List Nat)) (ou rs : List Nat) (k : Nat) : (runO nx ou rs k).length = k := by simp [runO]
theorem runO_at (nx : List (List Nat)) (ou rs : List Nat) (k i : Nat) (hi : i < k) : (runO nx ou rs k)[i]? = some (ou.getD (runM nx 0 (rs.take i)) 0) := by simp [runO, hi]
/-- The cells of what Run tells. -/
theorem run_cells {w : World} {B g cap n : Nat} {nx : List (List Nat)} {ou rs : List Nat} (h : w.ownsRow B 50 1 (.slice (some ⟨g, 0, none⟩) n cap) n (uv (runO nx ou rs n))) (i : Nat) (hi : i < n) : w.cell? ⟨g, i, none⟩ = some (.int .u64 ((ou.getD (runM nx 0 (rs.take i)) 0 : Nat) : Int)) := by
  obtain ⟨g', hg, _, cur, _, hc⟩ := own_cells1 h (by omega)
  cases hg
  rw [hc i hi]
  simp [uv, runO, hi]
/-- What few keeps, as expressions to build of. -/
theorem FewP.use {D : Nat} {l : List (Nd × Bool)} {w : World} {e : Ending} {w' : World} (h : FewP D l w e w') : Below w.heap.size w w' ∧ ∃ (xs : List (Nd × Bool)) (a4 a5 : Option Addr) (c4 c5 : Nat), e = .returned (.tuple #[.slice a4 xs.length c4, .slice a5 xs.length c5]) ∧ xs.length ≤ 8 ∧ (∀ x, x ∈ xs → x ∈ l ∧ (x.1.cnt ≤ 400 → x.1.cnt ≤ 40)) ∧ XRow w'.heap.size w' D a4 xs ∧ XRow w'.heap.size w' D a5 xs := by
  obtain ⟨hb, xs, fl, a4, a5, c4, c5, he, h8, hx, hf, h4, h5⟩ := h
  have hf' : FlX w.heap.size w' D xs fl := hf.later (fun n us hi => hi.later hb D)
  exact ⟨hb, xs, a4, a5, c4, c5, he, h8, hx, (hf'.row h4).base hb.size, (hf'.row h5).base hb.size⟩
/-- A row of classes as numbers. -/
theorem cls_nat {K : Nat} {row : List Int} (h : Cls K row) : (row.map Int.toNat).map Int.ofNat = row ∧ Wd K (row.map Int.toNat) := by
  refine ⟨?_, fun c hc => ?_⟩
  · rw [List.map_map]
    conv => rhs; rw [← List.map_id row]
    apply List.map_congr_left
    intro c hc
    have := (h c hc).1
    show ((c.toNat : Nat) : Int) = c
    omega
  · obtain ⟨x, hx, rfl⟩ := List.mem_map.1 hc
    have := h x hx
    omega
theorem Cls.take {K : Nat} {row : List Int} (h : Cls K row) (k : Nat) : Cls K (row.take k) := fun c hc => h c (List.mem_of_mem_take hc)
theorem Wd.take {K : Nat} {w : List Nat} (h : Wd K w) (k : Nat) : Wd K (w.take k) := fun c hc => h c (List.mem_of_mem_take hc)
/-- An expression fits behind a beginning of a row: all of it, or an end of it. -/
theorem out_whole {K : Nat} {xs : List (Nd × Bool)} {row : List Int} (hc : Cls K row) {k : Nat} {x : Nd × Bool} (hx : xs[k]? = some x) (hw : x.2 = true) (i : Nat) : outC xs ((row.map Int.toNat).take i) k ↔ x.1.fits (row.take i) := by
  unfold outC
  rw [← List.map_take, (cls_nat (hc.take i)).1]
  constructor
  · rintro ⟨y, hy, u, v, h1, h2, h3⟩
    obtain rfl : x = y := Option.some.inj (hx.symm.trans hy)
    rw [h2 hw] at h1
    rw [h1]; simpa using h3
  · intro h
    exact ⟨x, hx, [], row.take i, by simp, fun _ => rfl, h⟩
theorem out_some {K : Nat} {xs : List (Nd × Bool)} {row : List Int} (hc : Cls K row) {k : Nat} {x : Nd × Bool} (hx : xs[k]? = some x) (hw : x.2 = false) (i : Nat) (hi : i ≤ row.length) : outC xs ((row.map Int.toNat).take i) k ↔ ∃ j, j ≤ i ∧ x.1.fits (sg row j i) := by
  unfold outC
  rw [← List.map_take, (cls_nat (hc.take i)).1]
  constructor
  · rintro ⟨y, hy, u, v, h1, h2, h3⟩
    obtain rfl : x = y := Option.some.inj (hx.symm.trans hy)
    have hl := congrArg List.length h1
    simp at hl
    refine ⟨u.length, by omega, ?_⟩
    obtain ⟨_, _, h4⟩ := sg_cut row 0 i u v (by omega) hi (by rw [sg_take]; exact h1)
    rw [Nat.zero_add] at h4
    rw [h4]; exact h3
  · rintro ⟨j, hj, h⟩
    refine ⟨x, hx, row.take j, sg row j i, ?_, fun h => (by rw [hw] at h; cases h), h⟩
    rw [← sg_take, ← sg_take, sg_app row 0 j i (by omega) hj]
end Go.Proofs.YtpmmmgjiekikeaaDoor

/- What the statements of machines ask, without memory: bits, expressions turned round, one that never fits, one or the other. -/
namespace Go.Proofs.YtpmmmgjiekikeaaDoor
open Go.RowKit
set_option linter.unusedVariables false
set_option linter.unusedSimpArgs false

/-! Bits. -/
theorem and_one64 (X : Nat) : bits .and .u64 (X : Int) 1 = ((X % 2 : Nat) : Int) := by
  have key : (BitVec.ofInt 64 (X : Int) &&& BitVec.ofInt 64 1).toNat = X % 2 := by
    have h1 : (BitVec.ofInt 64 (1 : Int)).toNat = 2 ^ 1 - 1 := by decide
    rw [BitVec.toNat_and, BitVec.toNat_ofInt, h1, Nat.and_two_pow_sub_one_eq_mod]
    omega
  show IntKind.u64.wrap ((BitVec.ofInt 64 (X : Int) &&& BitVec.ofInt 64 1).toNat : Nat) = _
  rw [key, IntKind.wrap_u64]
  omega
theorem bit_mod (X k : Nat) : X / 2 ^ k % 2 = if X.testBit k = true then 1 else 0 := by
  rw [Nat.testBit_eq_decide_div_mod_eq]
  have : X / 2 ^ k % 2 = 0 ∨ X / 2 ^ k % 2 = 1 := by omega
  rcases this with h | h <;> simp [h]
theorem bit_eq {Y k : Nat} {t : Bool} (h : Y / 2 ^ k % 2 = if t = true then 1 else 0) : (bits .and .u64 ((Y : Int) / 2 ^ k) 1 == 1) = t := by
  have e : (Y : Int) / 2 ^ k = ((Y / 2 ^ k : Nat) : Int) := by simp
  rw [e, and_one64, h]
  cases t <;> rfl
/-- Numbers whose bits are few. -/
theorem least_lt {K : Nat} {xs : List (Nd × Bool)} {nx : List (List Nat)} {ou : List Nat} (h : LeastOf K xs nx ou) (hl : xs.length ≤ 64) {w : List Nat} (hw : Wd K w) : ou.getD (runM nx 0 w) 0 < 2 ^ 64 := by
  apply Nat.lt_pow_two_of_testBit
  intro i hi
  rw [← Bool.not_eq_true]
  intro hb
  obtain ⟨x, hx, _⟩ := (h.tells w hw i).1 hb
  have := (List.getElem?_eq_some_iff.1 hx).1
  omega
/-- What tells no less has no fewer states. -/
theorem least_le {K : Nat} {xs ys : List (Nd × Bool)} {a b : List (List Nat)} {oa ob : List Nat} (ha : LeastOf K xs a oa) (hb : LeastOf K ys b ob) (h : ∀ u v : List Nat, Wd K u → Wd K v → (∀ i, outC ys u i ↔ outC ys v i) → ∀ i, outC xs u i ↔ outC xs v i) : a.length ≤ b.length := by
  have la := asMet_pos ha.asMet
  have lb := asMet_pos hb.asMet
  have key : ∀ (i j : Nat) (u v : List Nat), i ≠ j → (Wd K u ∧ runM a 0 u = i) → (Wd K v ∧ runM a 0 v = j) → runM b 0 u ≠ runM b 0 v := by
    intro i j u v hne hu hv e
    apply hne
    rw [← hu.2, ← hv.2]
    refine ha.apart _ _ (runM_lt ha.asMet la u 0 la) (runM_lt ha.asMet la v 0 la) fun t ht => ?_
    rw [← runM_app, ← runM_app]
    have hut : Wd K (u ++ t) := fun c hc => (List.mem_append.1 hc).elim (hu.1 c) (ht c)
    have hvt : Wd K (v ++ t) := fun c hc => (List.mem_append.1 hc).elim (hv.1 c) (ht c)
    have hys : ∀ i, outC ys (u ++ t) i ↔ outC ys (v ++ t) i := fun i => by
      have g1 := hb.tells _ hut i
      have g2 := hb.tells _ hvt i
      rw [runM_app, e, ← runM_app] at g1
      exact g1.symm.trans g2
    have hxs := h _ _ hut hvt hys
    apply Nat.eq_of_testBit_eq
    intro i
    exact Bool.eq_iff_iff.2 (((ha.tells _ hut i).trans (hxs i)).trans (ha.tells _ hvt i).symm)
  obtain ⟨M, m1, m2, m3⟩ := pair_words (L := List.range a.length) (P := fun w i => Wd K w ∧ runM a 0 w = i) (R := fun u v => runM b 0 u ≠ runM b 0 v) List.nodup_range (fun i hi => table_met ha.asMet ha.wide i (List.mem_range.1 hi)) key
  have := pair_few (fun w => runM b 0 w) b.length (fun w _ => runM_lt hb.asMet lb w 0 lb) (fun u v _ _ hne => hne) m3
  simp at m1
  omega
/-! Turned round. -/
theorem outC_lt {xs : List (Nd × Bool)} {w : List Nat} {i : Nat} (h : outC xs w i) : i < xs.length := by
  obtain ⟨x, hx, _⟩ := h
  exact (List.getElem?_eq_some_iff.1 hx).1
theorem outC_rev (xs : List (Nd × Bool)) (w : List Nat) (i : Nat) (hi : i < xs.length) : outC xs.reverse w i ↔ outC xs w (xs.length - 1 - i) := by
  unfold outC
  rw [List.getElem?_reverse hi]
theorem outC_revs {xs : List (Nd × Bool)} {u v : List Nat} (h : ∀ i, outC xs u i ↔ outC xs v i) (i : Nat) : outC xs.reverse u i ↔ outC xs.reverse v i := by
  rcases Nat.lt_or_ge i xs.length with hi | hi
  · rw [outC_rev xs u i hi, outC_rev xs v i hi]; exact h _
  · constructor
    · intro g; have := outC_lt g; simp at this; omega
    · intro g; have := outC_lt g; simp at this; omega
theorem alw_rev (K : Int) (xs : List (Nd × Bool)) : alwB K xs.reverse = alwB K xs := by simp [alwB]
theorem big_rev {K : Nat} {xs : List (Nd × Bool)} (h : BigC K xs) : BigC K xs.reverse := by
  rcases h with ⟨L, h1, h2, h3⟩ | ⟨L, h1, h2, h3⟩
  · refine .inl ⟨L, h1, h2, h3.imp fun hne e => hne ?_⟩
    simp only [sitC, List.map_reverse] at e
    exact List.reverse_inj.1 e
  · refine .inr ⟨L, h1, h2, h3.imp fun ⟨v, hv, i, hno⟩ => ⟨v, hv, ?_⟩⟩
    refine Classical.byContradiction fun hall => hno ?_
    have hall' : ∀ i, outC xs.reverse (_ ++ v) i ↔ outC xs.reverse (_ ++ v) i := fun i => Classical.byContradiction fun hh => hall ⟨i, hh⟩
    have := outC_revs hall' i
    rwa [List.reverse_reverse] at this
/-! One that never fits. -/
def nvX : Nd × Bool := (⟨3, [], .nil⟩, false)
theorem nv_fits (w : List Int) : ¬ nvX.1.fits w := by
  intro h
  have h2 := (fits_op3 nvX.1 rfl w).1 h
  have e : toL nvX.1.kids = [] := rfl
  rw [e] at h2
  obtain ⟨k, hk, _⟩ := h2
  simp at hk
theorem outC_app (xs ys : List (Nd × Bool)) (w : List Nat) (i : Nat) : outC (xs ++ ys) w i ↔ (i < xs.length ∧ outC xs w i) ∨ (xs.length ≤ i ∧ outC ys w (i - xs.length)) := by
  unfold outC
  rcases Nat.lt_or_ge i xs.length with hi | hi
  · rw [List.getElem?_append_left hi]
    constructor
    · intro h; exact .inl ⟨hi, h⟩
    · rintro (⟨_, h⟩ | ⟨h, _⟩)
      · exact h
      · omega
  · rw [List.getElem?_append_right hi]
    constructor
    · intro h; exact .inr ⟨hi, h⟩
    · rintro (⟨h, _⟩ | ⟨_, h⟩)
      · omega
      · exact h
theorem outC_nv (xs : List (Nd × Bool)) (w : List Nat) (i : Nat) : outC (xs ++ [nvX]) w i ↔ outC xs w i := by
  rw [outC_app]
  constructor
  · rintro (⟨_, h⟩ | ⟨_, x, hx, u, v, _, _, h⟩)
    · exact h
    · cases hi : i - xs.length with
      | zero => rw [hi] at hx; simp at hx; subst hx; exact absurd h (nv_fits v)
      | succ j => rw [hi] at hx; simp at hx
  · intro h; exact .inl ⟨outC_lt h, h⟩
theorem nv_spot (w : List Nat) : w.foldl (stO nvX) (fiO nvX) = (0, false) := by
  have h0 : fiO nvX = (0, false) := by decide
  have h1 : ∀ c : Nat, stO nvX (0, false) c = (0, false) := fun c => by
    unfold stO nvX
    simp [stepS, Nd.span, topQ, spF, tkM, unM]
  rw [h0]
  induction w with
  | nil => rfl
  | cons c w ih => rw [List.foldl_cons, h1]; exact ih
theorem big_nv {K : Nat} {xs : List (Nd × Bool)} (h : BigC K (xs ++ [nvX])) : BigC K xs := by
  rcases h with ⟨L, h1, h2, h3⟩ | ⟨L, h1, h2, h3⟩
  · refine .inl ⟨L, h1, h2, h3.imp fun hne e => hne ?_⟩
    unfold sitC at e ⊢
    rw [List.map_append, List.map_append, e]
    simp only [List.map_cons, List.map_nil, nv_spot]
  · refine .inr ⟨L, h1, h2, h3.imp fun ⟨v, hv, i, hno⟩ => ⟨v, hv, i, fun hh => hno ?_⟩⟩
    rw [outC_nv, outC_nv]; exact hh
/-! One or the other, none and all. -/
def eiN (a b : Nd) : Nd := ⟨3, [], ofL [a, b]⟩
theorem ei_fits (a b : Nd) (w : List Int) : (eiN a b).fits w ↔ a.fits w ∨ b.fits w := by
  unfold eiN
  rw [fits_alt]
  simp
end Go.Proofs.YtpmmmgjiekikeaaDoor

/- Machines in memory, read step by step. -/
namespace Go.Proofs.YtpmmmgjiekikeaaDoor
open Go.RowKit
set_option linter.unusedVariables false
set_option linter.unusedSimpArgs false

/-- The state behind a beginning. -/
def stR (nx : List (List Nat)) (row : List Int) (i : Nat) : Nat := runM nx 0 ((row.map Int.toNat).take i)
/-- What is told there. -/
def ouR (nx : List (List Nat)) (ou : List Nat) (row : List Int) (i : Nat) : Nat := ou.getD (stR nx row i) 0
theorem stR_zero (nx : List (List Nat)) (row : List Int) : stR nx row 0 = 0 := by simp [stR, runM]
theorem stR_lt {K : Nat} {xs : List (Nd × Bool)} {nx : List (List Nat)} {ou : List Nat} (h : LeastOf K xs nx ou) (row : List Int) (i : Nat) : stR nx row i < nx.length :=
  runM_lt h.asMet (asMet_pos h.asMet) _ 0 (asMet_pos h.asMet)
theorem stR_take (nx : List (List Nat)) (row : List Int) (k i : Nat) (h : i ≤ k) : stR nx (row.take k) i = stR nx row i := by
  unfold stR
  rw [List.map_take, List.take_take, Nat.min_eq_left h]
theorem stR_succ {nx : List (List Nat)} {row : List Int} {i : Nat} (h : i < row.length) : stR nx row (i + 1) = nxt nx (stR nx row i) (row.getD i 0).toNat := by
  unfold stR
  have hl : i < (row.map Int.toNat).length := by simpa using h
  rw [take_snoc _ i hl, runM_app]
  simp [runM, List.getD_eq_getElem?_getD, h]
/-- A step of it. -/
theorem step_at {K : Nat} {xs : List (Nd × Bool)} {nx : List (List Nat)} {ou : List Nat} {V : World} {lb : Nat} (hm : MchAt V lb K nx ou) (hle : LeastOf K xs nx ou) {row : List Int} (hc : Cls K row) {j : Nat} (hj : j < row.length) :
    Calls Tryd.prog 19 #[.pointer (some ⟨lb, 0, none⟩), .int .i64 ((stR nx row j : Nat) : Int), .int .i64 (row.getD j 0)] V fun e w' => e = .returned (.int .i64 ((stR nx row (j + 1) : Nat) : Int)) ∧ w' = V := by
  have hX := hc row[j] (List.getElem_mem hj)
  have e : row.getD j 0 = row[j] := by simp [List.getD_eq_getElem?_getD, hj]
  obtain ⟨c, hcX⟩ : ∃ c : Nat, row[j] = (c : Int) := ⟨row[j].toNat, by omega⟩
  have hs := stR_lt hle row j
  rw [stR_succ hj, e, hcX]
  exact step_mch V lb K nx ou (stR nx row j) c hm hs (by omega) (by rw [show nx.getD (stR nx row j) [] = nx[stR nx row j] by simp [List.getD_eq_getElem?_getD, hs]]; exact hle.wide _ (List.getElem_mem hs))
/-- The sets that it tells. -/
theorem mch_out {V : World} {lb K : Nat} {nx : List (List Nat)} {ou : List Nat} (h : MchAt V lb K nx ou) (hp : 0 < ou.length) : ∃ oa oo oc, V.cell? ⟨lb, 2, none⟩ = some (.slice (some ⟨oa, oo, none⟩) ou.length oc) ∧ ∀ s, s < ou.length → V.cell? ⟨oa, oo + s, none⟩ = some (.int .u64 ((ou.getD s 0 : Nat) : Int)) := by
  obtain ⟨na, nc, oa, oc, m1, _, o1, _⟩ := h
  obtain ⟨b, off, rfl, hoc⟩ := o1.2 hp
  refine ⟨b, off, oc, cell_of_row V lb 2 _ _ _ m1, fun s hs => ?_⟩
  rw [hoc s hs]
  simp [intsN, List.getD_eq_getElem?_getD, hs]
theorem mch_next {V : World} {lb K : Nat} {nx : List (List Nat)} {ou : List Nat} (h : MchAt V lb K nx ou) (hp : 0 < nx.length) : ∃ na no nc, V.cell? ⟨lb, 1, none⟩ = some (.slice (some ⟨na, no, none⟩) nx.length nc) ∧ ∀ s (hs : s < nx.length), ∃ ra rc, V.cell? ⟨na, no + s, none⟩ = some (.slice ra nx[s].length rc) ∧ Rd .i64 V ra nx[s].length (intsN nx[s]) := by
  obtain ⟨na, nc, oa, oc, m1, n1, _⟩ := h
  obtain ⟨b, off, rfl, hn⟩ := n1 hp
  exact ⟨b, off, nc, cell_of_row V lb 1 _ _ _ m1, fun s hs => hn s hs⟩
/-- What Run tells, cell by cell. -/
theorem run_told {w w' : World} {B g cap n : Nat} {nx : List (List Nat)} {ou : List Nat} {row : List Int} (h : w.ownsRow B 50 1 (.slice (some ⟨g, 0, none⟩) n cap) n (uv (runO nx ou (row.map Int.toNat) n))) (hb : Below w.heap.size w w') (i : Nat) (hi : i < n) : w'.cell? ⟨g, i, none⟩ = some (.int .u64 ((ouR nx ou row i : Nat) : Int)) :=
  upC hb (run_cells h i hi)
end Go.Proofs.YtpmmmgjiekikeaaDoor

/- New nodes and rows of expressions in memory; bits of two sets. -/
namespace Go.Proofs.YtpmmmgjiekikeaaDoor
open Go.RowKit
set_option linter.unusedVariables false
set_option linter.unusedSimpArgs false

/-- A node that is made and filled. -/
def newN (w : World) (v0 v1 v2 : Value) : World := (((w.alloc (.cells #[.int .i64 0, .slice none 0 0, .slice none 0 0] 38)).setCell ⟨w.heap.size, 0, none⟩ v0).setCell ⟨w.heap.size, 1, none⟩ v1).setCell ⟨w.heap.size, 2, none⟩ v2
theorem newN_block (w : World) (v0 v1 v2 : Value) : (newN w v0 v1 v2).heap[w.heap.size]? = some (.cells #[v0, v1, v2] 38) := by
  unfold newN
  have h0 := heap_alloc_new w (.cells #[.int .i64 0, .slice none 0 0, .slice none 0 0] 38)
  have h1 := heap_setCell_same _ _ 0 _ _ v0 h0
  have h2 := heap_setCell_same _ _ 1 _ _ v1 h1
  have h3 := heap_setCell_same _ _ 2 _ _ v2 h2
  rw [h3]
  rfl
theorem newN_below (w : World) (v0 v1 v2 : Value) : Below w.heap.size w (newN w v0 v1 v2) := by
  unfold newN
  have h0 : Below w.heap.size w (w.alloc (.cells #[.int .i64 0, .slice none 0 0, .slice none 0 0] 38)) := (Below.refl _ w).alloc (Nat.le_refl _) _
  exact ((h0.setCell (p := ⟨w.heap.size, 0, none⟩) (Nat.le_refl _) v0).setCell (p := ⟨w.heap.size, 1, none⟩) (Nat.le_refl _) v1).setCell (p := ⟨w.heap.size, 2, none⟩) (Nat.le_refl _) v2
/-- A row of expressions as one block. -/
theorem xrow_block {W : World} {D b : Nat} {xs : List (Nd × Bool)} {cs : Array Value} {t : TypeId} {fr : Nat × Nat} (hb : W.heap[b]? = some (.cells cs t fr)) (h : ∀ i (hi : i < xs.length), ∃ us, InV W.heap.size W D xs[i].1 us ∧ (∀ j v, us[j]? = some v → cs[i * 4 + j]? = some v) ∧ cs[i * 4 + 3]? = some (.bool xs[i].2)) : XRow W.heap.size W D (some ⟨b, 0, none⟩) xs := by
  intro _
  refine ⟨b, 0, rfl, fun i hi => ?_⟩
  obtain ⟨us, h1, h2, h3⟩ := h i hi
  refine ⟨us, h1, fun j v hv => ?_, ?_⟩
  · rw [show 0 + i * 4 + j = i * 4 + j by omega, cell_of_row W b (i * 4 + j) _ _ _ hb]; exact h2 j v hv
  · rw [show 0 + i * 4 + 3 = i * 4 + 3 by omega, cell_of_row W b (i * 4 + 3) _ _ _ hb]; exact h3
theorem three_at {x0 x1 x2 : Value} {cs : Array Value} {i : Nat} (h0 : cs[i]? = some x0) (h1 : cs[i + 1]? = some x1) (h2 : cs[i + 2]? = some x2) : ∀ (j : Nat) (v : Value), [x0, x1, x2][j]? = some v → cs[i + j]? = some v := by
  intro j v hv
  match j, hv with
  | 0, hv => simp at hv; subst hv; exact h0
  | 1, hv => simp at hv; subst hv; exact h1
  | 2, hv => simp at hv; subst hv; exact h2
  | (k + 3), hv => simp at hv
/-- One expression in a row of its own. -/
theorem xrow_one {W : World} {D b : Nat} {x : Nd} {wh : Bool} {u0 u1 u2 : Value} {t : TypeId} {fr : Nat × Nat} (hb : W.heap[b]? = some (.cells #[u0, u1, u2, .bool wh] t fr)) (h : InV W.heap.size W D x [u0, u1, u2]) : XRow W.heap.size W D (some ⟨b, 0, none⟩) [(x, wh)] :=
  xrow_block hb fun i hi => by
    obtain rfl : i = 0 := by simp at hi; exact hi
    exact ⟨_, h, three_at rfl rfl rfl, rfl⟩
/-! Bits of two sets. -/
theorem or_nat64 (a b : Nat) (ha : a < 2 ^ 64) (hb : b < 2 ^ 64) : bits .or .u64 (a : Int) (b : Int) = ((a ||| b : Nat) : Int) := by
  have hl : a ||| b < 2 ^ 64 := Nat.or_lt_two_pow ha hb
  have key : (BitVec.ofInt 64 (a : Int) ||| BitVec.ofInt 64 (b : Int)).toNat = a ||| b := by
    rw [BitVec.toNat_or, BitVec.toNat_ofInt, BitVec.toNat_ofInt]
    congr 1
    · omega
    · omega
  show IntKind.u64.wrap ((BitVec.ofInt 64 (a : Int) ||| BitVec.ofInt 64 (b : Int)).toNat : Nat) = _
  rw [key, IntKind.wrap_u64]
  omega
theorem mod_bit (X : Nat) : X % 2 = if X.testBit 0 = true then 1 else 0 := by
  have := bit_mod X 0
  simpa using this
/-- One or the other, none, and all: what is told of them. -/
def eiX (a b : Nd) (wh : Bool) : List (Nd × Bool) := [(a, wh), (b, wh), (eiN a b, wh), (⟨3, [], .nil⟩, wh), (nilNd, wh)]
theorem outC_get {xs : List (Nd × Bool)} {w : List Nat} {i : Nat} {x : Nd × Bool} (h : xs[i]? = some x) : outC xs w i ↔ ∃ u v : List Int, w.map Int.ofNat = u ++ v ∧ (x.2 = true → u = []) ∧ x.1.fits v := by
  unfold outC
  constructor
  · rintro ⟨y, hy, r⟩
    obtain rfl : x = y := Option.some.inj (h.symm.trans hy)
    exact r
  · intro r; exact ⟨x, h, r⟩
theorem ei_two (a b : Nd) (wh : Bool) (w : List Nat) : outC (eiX a b wh) w 2 ↔ outC (eiX a b wh) w 0 ∨ outC (eiX a b wh) w 1 := by
  rw [outC_get (i := 2) (x := (eiN a b, wh)) rfl, outC_get (i := 0) (x := (a, wh)) rfl, outC_get (i := 1) (x := (b, wh)) rfl]
  constructor
  · rintro ⟨u, v, h1, h2, h3⟩
    rcases (ei_fits a b v).1 h3 with h | h
    · exact .inl ⟨u, v, h1, h2, h⟩
    · exact .inr ⟨u, v, h1, h2, h⟩
  · rintro (⟨u, v, h1, h2, h3⟩ | ⟨u, v, h1, h2, h3⟩)
    · exact ⟨u, v, h1, h2, (ei_fits a b v).2 (.inl h3)⟩
    · exact ⟨u, v, h1, h2, (ei_fits a b v).2 (.inr h3)⟩
theorem ei_three (a b : Nd) (wh : Bool) (w : List Nat) : ¬ outC (eiX a b wh) w 3 := by
  rw [outC_get (x := (⟨3, [], .nil⟩, wh)) rfl]
  rintro ⟨u, v, _, _, h⟩
  exact nv_fits v h
theorem ei_four (a b : Nd) (wh : Bool) (w : List Nat) : outC (eiX a b wh) w 4 ↔ w = [] ∨ wh = false := by
  rw [outC_get (x := (nilNd, wh)) rfl]
  constructor
  · rintro ⟨u, v, h1, h2, h3⟩
    rw [nil_fits] at h3
    cases wh with
    | false => exact .inr rfl
    | true =>
      rw [h2 rfl, h3] at h1
      exact .inl (List.map_eq_nil_iff.1 h1)
  · rintro (rfl | rfl)
    · exact ⟨[], [], rfl, fun _ => rfl, (nil_fits _).2 rfl⟩
    · exact ⟨w.map Int.ofNat, [], by simp, fun h => (by cases h), (nil_fits _).2 rfl⟩
/-- The bits of such a set. -/
theorem ei_bits {K : Nat} {a b : Nd} {wh : Bool} {nx : List (List Nat)} {ou : List Nat} (hle : LeastOf K (eiX a b wh) nx ou) {row : List Int} (hc : Cls K row) (i : Nat) (hi : i ≤ row.length) : (ouR nx ou row i) / 2 ^ 2 % 2 = (ouR nx ou row i ||| ouR nx ou row i / 2) % 2 ∧ ouR nx ou row i / 2 ^ 3 % 2 = 0 ∧ (ouR nx ou row i / 2 ^ 4 % 2 = if (decide (i = 0) || !wh) = true then 1 else 0) := by
  have ht := fun k => hle.tells _ ((cls_nat hc).2.take i) k
  have t2 : (ouR nx ou row i).testBit 2 = ((ouR nx ou row i).testBit 0 || (ouR nx ou row i).testBit 1) := by
    rw [Bool.eq_iff_iff, Bool.or_eq_true]
    exact ((ht 2).trans (ei_two a b wh _)).trans (or_congr (ht 0).symm (ht 1).symm)
  have t3 : (ouR nx ou row i).testBit 3 = false := by
    rw [← Bool.not_eq_true]
    exact fun h => ei_three a b wh _ ((ht 3).1 h)
  have t4 : (ouR nx ou row i).testBit 4 = (decide (i = 0) || !wh) := by
    rw [Bool.eq_iff_iff, Bool.or_eq_true, Bool.not_eq_true', decide_eq_true_eq]
    refine ((ht 4).trans (ei_four a b wh _)).trans (or_congr ?_ Iff.rfl)
    rw [List.take_eq_nil_iff, List.map_eq_nil_iff]
    constructor
    · rintro (h | h)
      · exact h
      · rw [h] at hi; simpa using hi
    · intro h; exact .inl h
  refine ⟨?_, by rw [bit_mod, t3]; rfl, by rw [bit_mod, t4]⟩
  rw [bit_mod, t2, mod_bit, Nat.testBit_or]
  have : (ouR nx ou row i / 2).testBit 0 = (ouR nx ou row i).testBit 1 := by
    rw [Nat.testBit_succ]
  rw [this]
end Go.Proofs.YtpmmmgjiekikeaaDoor

/- Arguments opened: an expression by value, a list of numbers, a number. -/
namespace Go.Proofs.YtpmmmgjiekikeaaDoor
open Go.ChangeShapes Go.WideShapes Go.ChangeAt Go.RowKit
set_option linter.unusedVariables false

set_option maxRecDepth 100000 in
theorem open_value {H : Type} {enc : TypeId × Value → H} {W : World} {base : Nat} {v : Value} {d : DataW H} {p : List MemPlace} (hval : Value.okWide Tryd.prog W .any base 38 v) (h : DataW.Trod enc Tryd.prog W 0 (fun _ => true) true 38 v d p) (hw : (d.weights Tryd.prog 38).all (· ≤ reachBytes) = true) :
    ∃ D x xa xc xk xkc, v = .agg #[.int .i64 x.op, .slice xa x.cl.length xc, .slice xk (toL x.kids).length xkc] ∧ InV W.heap.size W D x [.int .i64 x.op, .slice xa x.cl.length xc, .slice xk (toL x.kids).length xkc] := by
  obtain ⟨cs, rfl, _⟩ := okWide_struct Tryd.underlying38 hval
  obtain ⟨fuel, hf⟩ := h
  obtain ⟨n, hn⟩ := open_node fuel hf hw
  obtain ⟨xa, xc, xk, xkc, e⟩ := hn.three
  have e2 : cs.toList = [.int .i64 n.op, .slice xa n.cl.length xc, .slice xk (toL n.kids).length xkc] := e
  have e3 : cs = #[.int .i64 n.op, .slice xa n.cl.length xc, .slice xk (toL n.kids).length xkc] := by cases cs; simpa using e2
  refine ⟨fuel, n, xa, xc, xk, xkc, by rw [e3], ?_⟩
  rw [← e2]
  exact hn
theorem open_list {H : Type} {enc : TypeId × Value → H} {W : World} {a : Option Addr} {len cap : Nat} {d : DataW H} {p : List MemPlace} (h : DataW.Trod enc Tryd.prog W 0 (fun _ => true) true 35 (.slice a len cap) d p) (hw : (d.weights Tryd.prog 35).all (· ≤ reachBytes) = true) :
    ∃ xs, Rd .i64 W a len xs ∧ len ≤ cap ∧ cap ≤ 9223372036854775807 ∧ (a = none → cap = 0) := by
  obtain ⟨fuel, hf⟩ := h
  obtain ⟨a', zs, c, hcs, hr, _, h3, h4, h5⟩ := open_cls hf hw
  simp [Value.cells] at hcs
  obtain ⟨rfl, rfl, rfl⟩ := hcs
  exact ⟨zs, hr, h3, h4, h5⟩
theorem open_int {H : Type} {enc : TypeId × Value → H} {W : World} {k : IntKind} {v : Int} {d : DataW H} {p : List MemPlace} (h : DataW.Trod enc Tryd.prog W 0 (fun _ => true) true 3 (.int k v) d p) : -9223372036854775808 ≤ v ∧ v ≤ 9223372036854775807 := by
  obtain ⟨fuel, hf⟩ := h
  obtain ⟨op, hop, h1, h2⟩ := DataW.trod_int Tryd.underlying3 hf
  simp [Value.cells] at hop
  rw [hop.2]
  exact i64_of_wf h2
end Go.Proofs.YtpmmmgjiekikeaaDoor

/- Expressions that come in as an argument. -/
namespace Go.Proofs.YtpmmmgjiekikeaaDoor
open Go.ChangeShapes Go.WideShapes Go.ChangeAt Go.RowKit
set_option linter.unusedVariables false

theorem w_ex {H : Type} (d0 d1 : DataW H) (h : ((DataW.agg [d0, d1]).weights Tryd.prog 41).all (· ≤ reachBytes) = true) : (d0.weights Tryd.prog 38).all (· ≤ reachBytes) = true := by
  simp only [DataW.weights, Tryd.underlying41, DataW.weightsEach, List.map_cons, List.map_nil, List.all_append, Bool.and_eq_true] at h
  exact h.1
theorem open_expr {H : Type} {enc : TypeId × Value → H} {W : World} {fuel : Nat} {cs : List Value} {x : DataW H × List MemPlace} (hf : DataW.trod enc Tryd.prog W 0 (fun _ => true) true fuel 41 cs = some x) (hw : (x.1.weights Tryd.prog 41).all (· ≤ reachBytes) = true) :
    ∃ (y : Nd × Bool) (us : List Value), InV W.heap.size W fuel y.1 us ∧ us.length = 3 ∧ cs = us ++ [.bool y.2] := by
  obtain ⟨xs, k, rfl, hxy, hlen, hxl, hfl⟩ := DataW.trod_struct Tryd.underlying41 hf
  have cb : Tryd.prog.cellsOf 4 = 1 := by kernel_rfl
  have cn : Tryd.prog.cellsOf 38 = 3 := by kernel_rfl
  have cr : Tryd.prog.cellsOf 41 = 4 := by kernel_rfl
  rw [cr] at hlen
  have hx2 : xs.length = 2 := hxl
  obtain ⟨v0, v1, v2, v3, rfl⟩ : ∃ v0 v1 v2 v3, cs = [v0, v1, v2, v3] := by
    rcases cs with _ | ⟨v0, _ | ⟨v1, _ | ⟨v2, _ | ⟨v3, _ | ⟨v4, r⟩⟩⟩⟩⟩
    all_goals first | exact ⟨_, _, _, _, rfl⟩ | (simp at hlen)
  obtain ⟨y0, y1, rfl⟩ : ∃ y0 y1, xs = [y0, y1] := by
    rcases xs with _ | ⟨v0, _ | ⟨v1, _ | ⟨v2, r⟩⟩⟩
    all_goals first | exact ⟨_, _, rfl⟩ | (simp at hx2)
  have g0 := hfl 0 _ rfl
  have g1 := hfl 1 _ rfl
  simp [cb, cn] at g0 g1
  rw [hxy] at hw
  have hw0 := w_ex y0.1 y1.1 hw
  obtain ⟨m0, hm0⟩ := open_node k g0 hw0
  obtain ⟨b0, hb0, _⟩ := DataW.trod_bool Tryd.underlying4 g1
  obtain ⟨la, lc, lp, lpc, e0⟩ := hm0.three
  simp at hb0
  subst hb0
  exact ⟨(m0, b0), [v0, v1, v2], hm0.mono (by omega), rfl, rfl⟩
theorem open_exprs {H : Type} {enc : TypeId × Value → H} {W : World} {a : Option Addr} {len cap : Nat} {d : DataW H} {p : List MemPlace} (h : DataW.Trod enc Tryd.prog W 0 (fun _ => true) true 22 (.slice a len cap) d p) (hw : (d.weights Tryd.prog 22).all (· ≤ reachBytes) = true) :
    ∃ D l, len = l.length ∧ XRow W.heap.size W D a l ∧ l.length ≤ 2600000000000 := by
  obtain ⟨fuel, hf⟩ := h
  have cr : Tryd.prog.cellsOf 41 = 4 := by kernel_rfl
  have br : Tryd.prog.bytesOf 41 = 64 := by kernel_rfl
  rcases DataW.trod_slice Tryd.underlying22 hf with ⟨hcs, _⟩ | ⟨x, l, c, elems, rest, n, hn, hcs, hyy, _, hl, hm, hel, hat, hsp, _⟩
  · simp [Value.cells] at hcs
    obtain ⟨rfl, rfl, rfl⟩ := hcs
    exact ⟨0, [], rfl, fun hp => by simp at hp, by simp⟩
  · simp [Value.cells] at hcs
    obtain ⟨rfl, rfl, rfl⟩ := hcs
    have hd : d = .slice (elems.map (·.1)) (rest.map (·.1)) := congrArg Prod.fst hyy
    rw [hd] at hw
    simp only [DataW.weights, Tryd.underlying22, List.all_cons, List.all_append, Bool.and_eq_true, List.length_map, br, reachBytes] at hw
    obtain ⟨hw3, hw4, _⟩ := hw
    have hw5 : (elems.length + rest.length) * 64 ≤ 140737488351232 := of_decide_eq_true hw3
    haveI : Inhabited ((Nd × Bool) × List Value) := ⟨((nilNd, false), [])⟩
    have each : ∀ i, i < len → ∃ y : (Nd × Bool) × List Value, InV W.heap.size W n y.1.1 y.2 ∧ y.2.length = 3 ∧ ∀ j, j < 4 → W.cell? (x.add (i * 4 + j)) = (y.2 ++ [.bool y.1.2])[j]? := by
      intro i hi
      have h1 := hat i hi
      rw [List.getElem?_eq_getElem (by omega)] at h1
      obtain ⟨us, hus, htr⟩ := Option.bind_eq_some_iff.1 h1
      rw [cr] at hus
      obtain ⟨_, hul, hcell⟩ := World.cells?_some hus
      have hwi : ((elems[i]'(by omega)).1.weights Tryd.prog 41).all (· ≤ reachBytes) = true := wAll _ _ hw4 _ (List.mem_map.2 ⟨elems[i]'(by omega), List.getElem_mem _, rfl⟩)
      obtain ⟨y, vs, hin, hvl, hv⟩ := open_expr htr hwi
      refine ⟨(y, vs), hin, hvl, fun j hj => ?_⟩
      have := hcell j hj
      rw [Go.Deep.add_add, hv] at this
      exact this
    obtain ⟨R, hR⟩ := Go.Deep.choose_lt each
    refine ⟨n, (List.range len).map fun i => (R i).1, by simp, fun hp => ?_, by simp; omega⟩
    have hp' : 0 < len := by simpa using hp
    obtain ⟨b, off, rfl⟩ : ∃ b off, x = ⟨b, off, none⟩ := by
      obtain ⟨b, off, spot⟩ := x
      obtain ⟨_, hlen3, hc⟩ := hR 0 hp'
      have h30 := hc 0 (by omega)
      rw [List.getElem?_append_left (by omega), List.getElem?_eq_getElem (by omega)] at h30
      have hs : spot = none := by simpa [Addr.add] using World.cell?_spot h30
      exact ⟨b, off, by rw [hs]⟩
    refine ⟨b, off, rfl, fun i hi => ?_⟩
    have hi' : i < len := by simpa using hi
    obtain ⟨h1, h2, h3⟩ := hR i hi'
    have e : ((List.range len).map fun i => (R i).1)[i]'hi = (R i).1 := by simp
    rw [e]
    refine ⟨(R i).2, h1, fun j v hv => ?_, ?_⟩
    · have hj := (List.getElem?_eq_some_iff.1 hv).1
      have := h3 j (by omega)
      rw [add_lit, List.getElem?_append_left hj, hv] at this
      rw [show off + i * 4 + j = off + (i * 4 + j) by omega]
      exact this
    · have := h3 3 (by omega)
      rw [add_lit, List.getElem?_append_right (by omega), h2] at this
      rw [show off + i * 4 + 3 = off + (i * 4 + 3) by omega]
      exact this
end Go.Proofs.YtpmmmgjiekikeaaDoor

/- The frame that every statement of this layer stands in: what the listed variables give a walk; a world in which they are laid. -/
namespace Go.Proofs.YtpmmmgjiekikeaaDoor
open Go.ChangeShapes Go.WideShapes Go.ChangeAt Go.RowKit
set_option linter.unusedVariables false

theorem own : ownKnob Tryd.prog.godebug = none := by kernel_rfl
theorem laidOut : laidOutB Tryd.prog = true := by kernel_rfl
/-- A statement out of its walk, with what is listed and the weights of what comes in. -/
theorem returns_sized {H : Type} {enc : TypeId × Value → H} {a : Assume} {C : Checked} {os : Os} {f : FuncId} {fn : Func} {s : ChangeSpec} {conds : List PathCond} {apart fresh handsOn again : Bool} {X : World → Array Value → Prop}
    (hX : ∀ (w w' : World) (args : Array Value), w.heap = w'.heap → X w args → X w' args)
    (own : ownKnob C.prog.godebug = none) (started : os.Started) (noInit : C.prog.inits.idxOf? f = none) (hfn : C.prog.funcs[f]? = some fn)
    (witness : ∃ (w : World) (tape : Tape) (i : Input), w.os = os ∧ (w.forCall tape i).Shaped C.prog ∧ i.vars = [] ∧ Input.okWide C.prog (w.forCall tape i) .any w.heap.size f i ∧
      ((s.pre enc C.prog fn conds apart (w.forCall tape i).memory i.args ∧ X (w.forCall tape i).memory i.args) ∧ sizedMet enc C.prog fn (OpenSpec.ofChange s) apart (w.forCall tape i).memory i.args) ∧ a.holds C.prog (lone (Frame.enter C.prog f i.args .normal) [] (w.forCall tape i)))
    (contract : ∀ (W : World) (base : Nat) (args : Array Value) (ds gs : List (DataW H)) (before : List MemPlace),
      (∀ (j : Nat) t v, fn.params[j]? = some t → args[j]? = some v → Value.okWide C.prog W .any base t v) →
      DataW.Whole enc C.prog fn.params.toList s.vars apart W args.toList ds gs before → X W args →
      (DataW.weightsEach C.prog (fn.params.toList ++ (OpenSpec.ofChange s).bare.plain.varTypes C.prog) (ds ++ gs)).all (· ≤ reachBytes) = true →
      Calls C.prog f args W fun e W' => ∃ v, e = .returned v ∧ s.post enc C.prog fn apart fresh handsOn again W args v W') :
    ReturnsInHanded a C os f .any (fun w args => (s.pre enc C.prog fn conds apart w args ∧ X w args) ∧ sizedMet enc C.prog fn (OpenSpec.ofChange s) apart w args) (s.post enc C.prog fn apart fresh handsOn again) := by
  refine returnsInHanded_of_calls own started noInit witness ?_
  intro w tape i _ hsh _ hok hpre _
  obtain ⟨_, _, _, fn', hfn', _, _, _, _, hval⟩ := hok
  have e : fn' = fn := Option.some.inj (hfn'.symm.trans hfn)
  subst e
  obtain ⟨⟨⟨ds, gs, before, hw, hc⟩, hx⟩, hz⟩ := hpre
  have hw' := DataW.Whole.of_heap (w' := w.forCall tape i) (by rfl) hw
  refine (contract (w.forCall tape i) w.heap.size i.args ds gs before hval hw' (hX _ _ _ (by rfl) hx) (hz.weights hw)).mono fun e W' ⟨v, he, hp⟩ => ?_
  subst he
  exact ChangeSpec.post_blind hp
/-- What is listed. -/
def listD : List (String × DataW Unit) := Rows.dfaBuildsRow.laid
/-- A world in which all that is listed lies. -/
def laidWorldD (P : Program) (os : Os) : World := (World.holding P os ⟨#[], #[], []⟩).layVars P listD
theorem laidWorldD_data (os : Os) : laidMet Tryd.prog listD (laidWorldD Tryd.prog os) := by
  have e1 : (listD.filter fun x => (listD.map (·.1)).contains x.1) = listD := List.filter_eq_self.2 fun x hx => List.contains_iff_mem.2 (List.mem_map.2 ⟨x, hx, rfl⟩)
  have e2 : (listD.filter fun x => !(listD.map (·.1)).contains x.1) = [] := List.filter_eq_nil_iff.2 fun x hx => by rw [List.contains_iff_mem.2 (List.mem_map.2 ⟨x, hx, rfl⟩)]; simp
  exact laidMet_layVars (w0 := World.holding Tryd.prog os ⟨#[], #[], []⟩) (listD.map (·.1)) [] (by rw [e1]; rfl) (by rw [e1]; kernel_rfl) (by rw [e1]; kernel_rfl) (by rw [e2]; exact LaidIn.none)
theorem laidWorldD_met (os : Os) (args : Array Value) (l : List (String × DataW Unit)) (hl : l = listD) :
    laidMetH Tryd.prog l ((laidWorldD Tryd.prog os).forCall (fun _ _ => 0) ⟨#[], args, []⟩).memory := by
  subst hl
  refine laidMetH_of_parts ?_ (by kernel_rfl)
  exact (laidWorldD_data os).of_heap (by simp [World.memory, World.forCall, Input.heap])
theorem tabD_data : Rows.laid_math_bits_deBruijn64tab = (Lib.tabData .u8 (Lib.deBruijn64tab.map Int.ofNat) : DataW Unit) := by kernel_rfl
theorem globD : Tryd.prog.globalNamed "math/bits.deBruijn64tab" = some 0 := by kernel_rfl
theorem tab_head {W : World} {rest : List (String × DataW Unit)} (h3 : laidMet Tryd.prog (("math/bits.deBruijn64tab", Rows.laid_math_bits_deBruijn64tab) :: rest) W) : TabD W := by
  rw [tabD_data] at h3
  have h4 := Lib.tabIs_of_head (g := 0) (t := 158) (e := 5) (n := 64) globD (by kernel_rfl) Tryd.underlying158 Tryd.underlying5 (by kernel_rfl) (by kernel_rfl) h3
  intro j hj
  have h5 := World.var?_cell globD h4 j
  rw [h5]
  have hl : j < Lib.deBruijn64tab.length := by have : Lib.deBruijn64tab.length = 64 := by decide
                                               omega
  simp [List.getD_eq_getElem?_getD, hl]
theorem tabD_of {W : World} {l : List (String × DataW Unit)} (hl : l = listD) (h : laidMetH Tryd.prog l W) : TabD W := by
  subst hl
  have h3 : laidMet Tryd.prog listD W := h
  first | exact tab_head h3 | exact tab_head (laidMet.tail h3) | exact tab_head (laidMet.tail (laidMet.tail h3))
end Go.Proofs.YtpmmmgjiekikeaaDoor

/- Rows of truths in memory; no function of the program is named here. -/
namespace Go.Proofs.YtpmmmgjiekikeaaDoor
open Go.RowKit
set_option linter.unusedVariables false
set_option linter.unusedSimpArgs false

/-- A row of truths in memory. -/
def RdT (w : World) (a : Option Addr) (len : Nat) (bs : List Bool) : Prop :=
  bs.length = len ∧ (0 < len → ∃ b off, a = some ⟨b, off, none⟩ ∧ ∀ i, i < len → w.cell? ⟨b, off + i, none⟩ = some (.bool (bs.getD i false)))
theorem RdT.later {w w' : World} {a : Option Addr} {len : Nat} {bs : List Bool} (h : RdT w a len bs) (hb : Below w.heap.size w w') : RdT w' a len bs := by
  refine ⟨h.1, fun hp => ?_⟩
  obtain ⟨b, off, ha, hc⟩ := h.2 hp
  refine ⟨b, off, ha, fun i hi => ?_⟩
  exact (hb.cell (p := ⟨b, off + i, none⟩) (World.block_lt_of_cell? w _ (hc i hi))).trans (hc i hi)
theorem rdT_own {w : World} {B : Nat} {e : TypeId} {v : Value} {n : Nat} {bs : List Bool} (h : w.ownsRow B e 1 v n (bs.map Value.bool)) : ∃ a cap, v = .slice a n cap ∧ n ≤ cap ∧ (a = none → cap = 0) ∧ RdT w a n bs := by
  have hl : bs.length = n := by simpa using h.1
  rcases h.2 with ⟨rfl, rfl⟩ | ⟨g, cap, cur, rfl, hb, hg, hn, hm, hs, ht⟩
  · exact ⟨none, 0, rfl, by omega, fun _ => rfl, hl, fun hp => absurd hp (by omega)⟩
  · refine ⟨_, cap, rfl, hn, (fun h => by cases h), hl, fun hp => ⟨g, 0, rfl, fun i hi => ?_⟩⟩
    rw [cell_of_row w g (0 + i) cur e (0, 0) hg]
    have h1 : (cur.toList.take (n * 1))[i]? = (bs.map Value.bool)[i]? := by rw [ht]
    rw [List.getElem?_take, if_pos (by omega)] at h1
    simp at h1 ⊢
    rw [h1]
    simp [show i < bs.length by omega]
theorem get_bool (L : List Bool) (k m : Nat) (h : (L.map Value.bool).length = m) (hk : k < m) : ∃ z, (L.map Value.bool)[k]? = some (.bool z) := by
  have hl : k < L.length := by simp at h; omega
  exact ⟨L[k], by rw [List.getElem?_map, List.getElem?_eq_getElem hl]; rfl⟩
end Go.Proofs.YtpmmmgjiekikeaaDoor
