/- The walk of RgaTypes: what one types stands as one typed it. -/
import Derived.Test.YteicppfknkbelaaRgTm
import Derived.Test.YteicppfknkbelaaRgKp
import Derived.Test.YteicppfknkbelaaRiV
import Derived.Deep.CutRange
import Derived.Deep.QuietTactic
import Derived.BigQuiet
import Derived.Deep.RegionHeld3
namespace Go.Proofs.Yteicppfknkbelaa
open Go.RowKit Go.Shelf Go.Maps Go.Sort
set_option linter.unusedVariables false
set_option linter.unusedSimpArgs false

/-- Between the calls: the text, and the box of the last one's ID. -/
def TyS (w W : World) (P R : Nat) (O : List Opn) (n : Nat) (m : Int) (r : Int × Int) : Prop :=
  RgS w W P O (fun k => k = R) ∧ w.heap.size ≤ R ∧ W.heap[R]? = some (.cells #[.int .i64 r.1, .int .i64 r.2] 32) ∧ Ty O n m r
theorem TyS.later {w W W' : World} {P R : Nat} {O : List Opn} {n : Nat} {m : Int} {r : Int × Int} (h : TyS w W P R O n m r) (hb : Below W.heap.size W W') : TyS w W' P R O n m r :=
  ⟨h.1.later hb, h.2.1, (hb.block R (Array.getElem?_eq_some_iff.1 h.2.2.1).1).trans h.2.2.1, h.2.2.2⟩
theorem TyS.mono {w W : World} {P R : Nat} {O : List Opn} {n : Nat} {m m' : Int} {r : Int × Int} (h : TyS w W P R O n m r) (hm : m ≤ m') : TyS w W P R O n m' r := ⟨h.1, h.2.1, h.2.2.1, h.2.2.2.mono hm⟩
/-- The same, with a box of the new ID. -/
def TyX (w W : World) (P R X : Nat) (O : List Opn) (n : Nat) (m : Int) (r : Int × Int) (z : Int) : Prop :=
  RgS w W P O (fun k => k = R ∨ k = X) ∧ (w.heap.size ≤ R ∧ R ≠ X) ∧ W.heap[R]? = some (.cells #[.int .i64 r.1, .int .i64 r.2] 32) ∧ W.heap[X]? = some (.cells #[.int .i64 z, .int .i64 0] 32)
theorem TyX.later {w W W' : World} {P R X : Nat} {O : List Opn} {n : Nat} {m z : Int} {r : Int × Int} (h : TyX w W P R X O n m r z) (hb : Below W.heap.size W W') : TyX w W' P R X O n m r z :=
  ⟨h.1.later hb, h.2.1, (hb.block R (Array.getElem?_eq_some_iff.1 h.2.2.1).1).trans h.2.2.1, (hb.block X (Array.getElem?_eq_some_iff.1 h.2.2.2).1).trans h.2.2.2⟩
theorem TyS.box {w W : World} {P R : Nat} {O : List Opn} {n : Nat} {m : Int} {r : Int × Int} (h : TyS w W P R O n m r) (z : Int) : TyX w (W.alloc (.cells #[.int .i64 z, .int .i64 0] 32)) P R W.heap.size O n m r z := by
  have hR := (Array.getElem?_eq_some_iff.1 h.2.2.1).1
  refine ⟨h.1.more (gw_alloc W _).below fun k hk => ?_, ⟨h.2.1, by omega⟩, ((gw_alloc W _).below.block R hR).trans h.2.2.1, heap_alloc_new W _⟩
  rcases hk with hk | hk
  · exact .inl hk
  · subst hk; exact .inr ⟨Nat.le_refl _, by rw [World.size_alloc]; omega⟩
theorem ts_puta {w W : World} {P R X : Nat} {O : List Opn} {n : Nat} {m : Int} {r : Int × Int} (h : TyX w W P R X O n m r (m + 1)) (ht : Ty O n m r) (hl : O.length ≤ 100) (c : Int) (hc : chB c = true) (hm : 0 ≤ m) (hm2 : m ≤ 1000) (hn : n ≤ 1000) :
    Calls Try.prog 12 #[.pointer (some ⟨P, 0, none⟩), .agg #[.int .i64 (m + 1), .int .i64 0, .int .i64 ((n : Int) + 1), .bool true, .int .i64 r.1, .int .i64 r.2, .int .i32 c]] W fun e w' => ∃ z, e = .returned (.tuple #[.bool true, .int .i64 z]) ∧ TyX w w' P R X (O ++ [opA (m + 1) n r c]) n m r (m + 1) := by
  obtain ⟨t1, t2⟩ := ty_a ht c hc hm hm2 hn
  refine (s_put h.1 (opA (m + 1) n r c) (by omega)).mono fun e w' q => ?_
  obtain ⟨rfl, q1, q2, _⟩ := q
  rw [(put_took t1).1] at q1
  rw [t1]
  exact ⟨_, rfl, q1, h.2.1, (q2 R (.inl rfl)).trans h.2.2.1, (q2 X (.inr rfl)).trans h.2.2.2⟩
theorem ts_putz {w W : World} {P R : Nat} {O : List Opn} {n : Nat} {m : Int} {r : Int × Int} (h : TyS w W P R O n m r) (hl : O.length ≤ 100) (c : Int) (hc : chB c = true) (hm : 0 ≤ m) (hm2 : m ≤ 1000) :
    Calls Try.prog 12 #[.pointer (some ⟨P, 0, none⟩), .agg #[.int .i64 (m + 1), .int .i64 65536, .int .i64 ((lastO O 65536).s + 1), .bool true, .int .i64 0, .int .i64 0, .int .i32 c]] W fun e w' => ∃ z, e = .returned (.tuple #[.bool true, .int .i64 z]) ∧ TyS w w' P R (O ++ [opZ (m + 1) ((lastO O 65536).s + 1) c]) n (m + 1) r := by
  obtain ⟨t1, t2⟩ := ty_z h.2.2.2 c hc hm hm2 (by omega)
  refine (s_put h.1 (opZ (m + 1) ((lastO O 65536).s + 1) c) (by omega)).mono fun e w' q => ?_
  obtain ⟨rfl, q1, q2, _⟩ := q
  rw [(put_took t1).1] at q1
  rw [t1]
  exact ⟨_, rfl, q1, h.2.1, (q2 R rfl).trans h.2.2.1, t2⟩
theorem ts_vec {w W : World} {P R : Nat} {O : List Opn} {n : Nat} {m : Int} {r : Int × Int} (h : TyS w W P R O n m r) (hl : O.length ≤ 100) :
    Calls Try.prog 19 #[.pointer (some ⟨P, 0, none⟩)] W fun e w' => ∃ a k c, e = .returned (.slice a k c) ∧ TyS w w' P R O n m r ∧ Calls Try.prog 26 #[.slice a k c, .int .i64 65536] w' fun e w2 => e = .returned (.int .i64 (lastO O 65536).s) ∧ w2 = w' := by
  refine (s_vec h.1 (by omega)).mono fun e w' q => ?_
  obtain ⟨v, rfl, q1, q2⟩ := q
  obtain ⟨a, c, rfl, _, _, hr, _⟩ := rdE_own14 q1
  have := vecO_len O
  have := refSeq_any (vecO O) 65536 a _ c w' hr (by omega)
  rw [vecO_sq h.1.rv] at this
  exact ⟨_, _, _, rfl, h.later q2, this⟩
theorem ts_ids {w W : World} {P R : Nat} {O : List Opn} {n : Nat} {m : Int} {r : Int × Int} (h : TyS w W P R O n m r) (hl : O.length ≤ 100) :
    Calls Try.prog 16 #[.pointer (some ⟨P, 0, none⟩)] W fun e w' => ∃ a k c, e = .returned (.slice a k c) ∧ RdE w' a k (visI (els O)) ∧ k ≤ 100 ∧ Below w.heap.size w w' := by
  refine (s_ids h.1 (by omega)).mono fun e w' q => ?_
  obtain ⟨v, rfl, q1, q2⟩ := q
  obtain ⟨a, c, rfl, _, _, hr, _⟩ := rdE_own14 q1
  have := visI_len O
  exact ⟨_, _, _, rfl, hr, by omega, h.1.below.trans (q2.mono h.1.below.size)⟩
/-- The box's new contents. -/
theorem ts_store {w W W' : World} {P R X : Nat} {O : List Opn} {n n' : Nat} {m m' z : Int} {r r' : Int × Int} (h : TyX w W P R X O n m r z) (ht : Ty O n' m' r') (hc : Chg W W' (fun k => k = R)) (hr : W'.heap[R]? = some (.cells #[.int .i64 r'.1, .int .i64 r'.2] 32)) : TyS w W' P R O n' m' r' := by
  have h1 := h.1.chg hc (fun k hk => .inl hk) (fun k hk => by rw [hk]; exact h.2.1.1)
  exact ⟨h1.more (Below.refl _ _) (fun k hk => .inl (.inl hk)), h.2.1.1, hr, ht⟩
theorem ts_store2 {w V : World} {P R X : Nat} {O : List Opn} {n n' : Nat} {m m' z u v : Int} {r : Int × Int} (h : TyX w V P R X O n m r z) (ht : Ty O n' m' (u, v)) : TyS w ((V.setCell ⟨R, 0, none⟩ (.int .i64 u)).setCell ⟨R, 1, none⟩ (.int .i64 v)) P R O n' m' (u, v) :=
  ts_store h ht (cg_trans (cg_set V R 0 _) (cg_set _ R 1 _) (fun k _ hk => hk)) (heap_setX _ R 1 _ _ _ _ (heap_setX V R 0 _ _ _ _ h.2.2.1))
set_option maxHeartbeats 16000000 in
set_option maxRecDepth 100000 in
theorem rgaTypes_walk (xs : List Int) (a : Option Addr) (len cap : Nat) (ys : List Int) (b : Option Addr) (lenb capb : Nat) (w : World) (hrd : RdC w a len xs) (hrb : RdC w b lenb ys) :
    Calls Try.prog 6 #[.slice a len cap, .slice b lenb capb] w fun e w' => e = .returned (.bool true) ∧ Below w.heap.size w w' := by
  have HX : Hid (∀ w', Below w.heap.size w w' → RdC w' a len xs) := fun w' h => hrd.later h
  have HY : Hid (∀ w', Below w.heap.size w w' → RdC w' b lenb ys) := fun w' h => hrb.later h
  have HSH : Hid (Calls Try.prog 9 #[] w fun e w' => e = .returned (.bool true) ∧ Below w.heap.size w w') := shown14_any w
  have HNW : Hid (∀ w1, Below w.heap.size w w1 → Calls Try.prog 10 #[] w1 fun e w' => ∃ P, e = .returned (.pointer (some ⟨P, 0, none⟩)) ∧ RgS w w' P [] nob) := fun w1 hb => (s_new14 hb nob (fun k h => h.elim)).mono fun e w' q => by obtain ⟨P, h1, h2, _⟩ := q; exact ⟨P, h1, h2⟩
  have HID : Hid (∀ c a (W : World), Calls Try.prog 25 #[.int .i64 c, .int .i64 a] W fun e w' => e = .returned (.agg #[.int .i64 c, .int .i64 a]) ∧ Gw W w') := fun c a W => id_any c a W
  have HSZ : Hid (∀ c (W : World), Calls Try.prog 24 #[.int .i32 c] W fun e w' => ∃ n : Int, e = .returned (.int .i64 n) ∧ decide (0 < n) = chB c ∧ w' = W) := fun c W => (refSizeZ_any c W).mono fun e w' q => by obtain ⟨n, h1, h2, h3⟩ := q; exact ⟨n, h1, h2.2, h3⟩
  have HSB : Hid (∀ W P R O n m r, TyS w W P R O n m r → Below w.heap.size w W) := fun W P R O n m r h => h.1.below
  have HI0 : Hid (∀ W P, RgS w W P [] nob → TyS w (W.alloc (.cells #[.int .i64 0, .int .i64 0] 32)) P W.heap.size [] 0 0 (0, 0)) := fun W P h => ⟨h.more (gw_alloc W _).below (fun k hk => by subst hk; exact .inr ⟨Nat.le_refl _, by rw [World.size_alloc]; omega⟩), h.below.size, heap_alloc_new W _, ty_nil⟩
  clear hrd hrb
  go_enter Try.func6, Try.ntmps6
  go_upto_region 8 with (first
    | (go_at_call 9; refine HSH.out.mono ?_; rintro e w1 ⟨rfl, hb⟩; have HB1 : Hid (Below w.heap.size w w1) := hb; clear hb)
    | (go_at_call 10; refine (HNW.out _ HB1.out).mono ?_; rintro e w2 ⟨P, rfl, hs⟩; have HS0 : Hid (RgS w w2 P [] nob) := hs; clear hs))
  go_loopw [8, 9] (fun x8 x9 wr => ∃ (i n : Nat) (O : List Opn) (r : Int × Int), x9 = .int .i64 (i : Int) ∧ x8 = .int .i64 (n : Int) ∧ i ≤ 30 ∧ n ≤ i ∧ O.length ≤ 2 * i ∧ TyS w wr P w2.heap.size O n (2 * (i : Int)) r) (fun _ x9 _ => 30 - (RowKit.intOf x9).toNat)
  case atStart => exact ⟨0, 0, [], (0, 0), rfl, rfl, by omega, by omega, by simp, HI0.out _ _ HS0.out⟩
  case round =>
    obtain ⟨i, n, O, r, h9, h8, hi30, hni, hOl, hs⟩ := hrel
    subst h9 h8
    generalize hRR : w2.heap.size = R at *
    have HS : Hid (TyS w wr P R O n (2 * (i : Int)) r) := hs
    have ht : Ty O n (2 * (i : Int)) r := hs.2.2.2
    clear hs HS0
    by_cases h30 : i < 30
    · have hd0 : decide ((i : Int) < 30) = true := decide_eq_true (by omega)
      have HBW : Hid (Below w.heap.size w wr) := HSB.out _ _ _ _ _ _ _ HS.out
      obtain ⟨X, hX⟩ : ∃ X, xs.getD i 0 = X := ⟨_, rfl⟩
      obtain ⟨Y, hY⟩ : ∃ Y, ys.getD i 0 = Y := ⟨_, rfl⟩
      have HXX : Hid (i < len → ∀ w', Below w.heap.size w w' → ∃ b1 o1, a = some ⟨b1, o1, none⟩ ∧ w'.cell? ⟨b1, o1 + i, none⟩ = some (.int .i32 X)) := fun hl w' hb => by have := (HX.out w' hb).at i hl; rw [hX] at this; exact this
      have HYY : Hid (i < lenb → ∀ w', Below w.heap.size w w' → ∃ b1 o1, b = some ⟨b1, o1, none⟩ ∧ w'.cell? ⟨b1, o1 + i, none⟩ = some (.int .i32 Y)) := fun hl w' hb => by have := (HY.out w' hb).at i hl; rw [hY] at this; exact this
      clear HX HY HSH HNW HI0 hX hY
      obtain ⟨z, hz⟩ : ∃ z, z = (decide (i < len) && chB X) := ⟨_, rfl⟩
      have HZ : Hid (z = (decide (i < len) && chB X)) := hz
      clear hz
      go_upto_region 10 with fail
      go_cut [44] from 29 to 99 (fun x44 wx => x44 = .bool z ∧ wx = wr)
      case first =>
        by_cases hlt : i < len
        · have hd1 : decide ((i : Int) < (len : Int)) = true := decide_eq_true (by omega)
          have hz2 : chB X = z := by rw [HZ.out, decide_eq_true hlt, Bool.true_and]
          obtain ⟨b1, o1, hab, c0⟩ := HXX.out hlt wr HBW.out
          subst hab
          go_wp2_with (first | (go_at_call 24; refine (HSZ.out _ _).mono ?_; rintro e w' ⟨k, rfl, hn, hw⟩; subst hw; rw [hz2] at hn))
          go_meet
          case rel => exact ⟨rfl, rfl⟩
        · have hd1 : decide ((i : Int) < (len : Int)) = false := decide_eq_false (by omega)
          have hz2 : z = false := by rw [HZ.out, decide_eq_false hlt, Bool.false_and]
          subst hz2
          clear HZ
          go_wp2
          go_meet
          case rel => exact ⟨rfl, rfl⟩
      case rest =>
        obtain ⟨rfl, hwc⟩ := hcut
        subst hwc
        go_upto_if 44 with fail
        go_cut [8] from 29 to 99 (fun x8 wx => ∃ (n' : Nat) (O' : List Opn) (r' : Int × Int), x8 = .int .i64 (n' : Int) ∧ n' ≤ i + 1 ∧ O'.length ≤ 2 * i + 1 ∧ TyS w wx P R O' n' (2 * (i : Int) + 1) r')
        case first =>
          cases z
          · have HM : Hid (TyS w wc P R O n (2 * (i : Int) + 1) r) := HS.out.mono (by omega)
            go_wp2
            go_meet
            case rel => exact ⟨n, O, r, rfl, by omega, by omega, HM.out⟩
          · have hlt : i < len := by
              by_cases q : i < len
              · exact q
              · have hz := HZ.out; rw [decide_eq_false q, Bool.false_and] at hz; cases hz
            have hc : chB X = true := by have hz := HZ.out; rw [decide_eq_true hlt, Bool.true_and] at hz; exact hz.symm
            obtain ⟨t1, t2⟩ := ty_a ht X hc (by omega) (by omega) (by omega)
            obtain ⟨b1, o1, hab, _⟩ := HXX.out hlt wc HBW.out
            subst hab
            have HXA : Hid (∀ w', Below w.heap.size w w' → w'.cell? ⟨b1, o1 + i, none⟩ = some (.int .i32 X)) := fun w' hb => by
              obtain ⟨b9, o9, h9, c9⟩ := HXX.out hlt w' hb
              cases h9
              exact c9
            have HBOX : Hid (∀ V, Gw wc V → TyX w (V.alloc (.cells #[.int .i64 (2 * (i : Int) + 1), .int .i64 0] 32)) P R V.heap.size O n (2 * (i : Int)) r (2 * (i : Int) + 1)) := fun V hg => (HS.out.later hg.below).box _
            have HPU : Hid (∀ V Z, TyX w V P R Z O n (2 * (i : Int)) r (2 * (i : Int) + 1) → Calls Try.prog 12 #[.pointer (some ⟨P, 0, none⟩), .agg #[.int .i64 (2 * (i : Int) + 1), .int .i64 0, .int .i64 ((n : Int) + 1), .bool true, .int .i64 r.1, .int .i64 r.2, .int .i32 X]] V fun e w' => ∃ q, e = .returned (.tuple #[.bool true, .int .i64 q]) ∧ TyX w w' P R Z (O ++ [opA (2 * (i : Int) + 1) n r X]) n (2 * (i : Int)) r (2 * (i : Int) + 1)) := fun V Z h => ts_puta h ht (by omega) X hc (by omega) (by omega) (by omega)
            have HST : Hid (∀ V Z, TyX w V P R Z (O ++ [opA (2 * (i : Int) + 1) n r X]) n (2 * (i : Int)) r (2 * (i : Int) + 1) → TyS w ((V.setCell ⟨R, 0, none⟩ (.int .i64 (2 * (i : Int) + 1))).setCell ⟨R, 1, none⟩ (.int .i64 0)) P R (O ++ [opA (2 * (i : Int) + 1) n r X]) (n + 1) (2 * (i : Int) + 1) (2 * (i : Int) + 1, 0)) := fun V Z h => ts_store2 h t2
            go_upto_region 13 with (first | (go_at_call 25; refine (HID.out _ _ _).mono ?_; rintro e wi ⟨rfl, hg⟩; have HG : Hid (Gw wc wi) := hg; clear hg))
            have HTX : Hid (TyX w (wi.alloc (.cells #[.int .i64 (2 * (i : Int) + 1), .int .i64 0] 32)) P R wi.heap.size O n (2 * (i : Int)) r (2 * (i : Int) + 1)) := HBOX.out wi HG.out
            clear HBOX t1 t2 hc ht
            have HDX : Hid (∀ V q Z, TyX w V P R Z O n (2 * (i : Int)) r (2 * (i : Int) + 1) → TyX w (V.drewN q) P R Z O n (2 * (i : Int)) r (2 * (i : Int) + 1)) := fun V q Z h => h.later (gw_drewN V q).below
            generalize hZ : wi.heap.size = Z at *
            generalize hW1 : wi.alloc (.cells #[.int .i64 (2 * (i : Int) + 1), .int .i64 0] 32) = W1 at *
            clear hZ hW1
            obtain ⟨r0, r1⟩ := box2 HTX.out.2.2.1
            obtain ⟨z0, z1⟩ := box2 HTX.out.2.2.2
            have cA := HXA.out W1 HTX.out.1.below
            go_region_with (go_at_call 12; refine (HPU.out _ Z (HDX.out _ _ _ HTX.out)).mono ?_; rintro e w5 ⟨q, rfl, hq⟩; have HT5 : Hid (TyX w w5 P R Z (O ++ [opA (2 * (i : Int) + 1) n r X]) n (2 * (i : Int)) r (2 * (i : Int) + 1)) := hq; clear hq)
            all_goals
              obtain ⟨g0, g1⟩ := box2 HT5.out.2.2.1
              obtain ⟨h0, h1⟩ := box2 HT5.out.2.2.2
              have f0 : w5.frozen? ⟨R, 0, none⟩ = false := Lib.frozen_of_heap HT5.out.2.2.1 0
              have f1 : w5.frozen? ⟨R, 1, none⟩ = false := Lib.frozen_of_heap HT5.out.2.2.1 1
              have HF := HST.out _ _ HT5.out
              have HFF : Hid _ := HF
              clear HF
              go_wp2_with fail
              go_meet
              case rel => exact ⟨n + 1, O ++ [opA (2 * (i : Int) + 1) n r X], (2 * (i : Int) + 1, 0), by go_num, by omega, by rw [List.length_append]; simp; omega, HFF.out⟩
        case rest =>
          obtain ⟨n', O', r', h8, hn', hOl', hs'⟩ := hcut
          subst h8
          have ht' : Ty O' n' (2 * (i : Int) + 1) r' := hs'.2.2.2
          have HS2 : Hid (TyS w wc P R O' n' (2 * (i : Int) + 1) r') := hs'
          clear hs' ht HS HZ HBW
          have HBW : Hid (Below w.heap.size w wc) := HSB.out _ _ _ _ _ _ _ HS2.out
          obtain ⟨z2, hz2⟩ : ∃ z2, z2 = (decide (i < lenb) && chB Y) := ⟨_, rfl⟩
          have HZ : Hid (z2 = (decide (i < lenb) && chB Y)) := hz2
          clear hz2
          go_upto_region 17 with fail
          go_cut [78] from 29 to 99 (fun x78 wx => x78 = .bool z2 ∧ wx = wc)
          case first =>
            by_cases hlt : i < lenb
            · have hd1 : decide ((i : Int) < (lenb : Int)) = true := decide_eq_true (by omega)
              have hz2 : chB Y = z2 := by rw [HZ.out, decide_eq_true hlt, Bool.true_and]
              obtain ⟨b1, o1, hab, c0⟩ := HYY.out hlt wc HBW.out
              subst hab
              go_wp2_with (first | (go_at_call 24; refine (HSZ.out _ _).mono ?_; rintro e w' ⟨k, rfl, hn, hw⟩; subst hw; rw [hz2] at hn))
              go_meet
              case rel => exact ⟨rfl, rfl⟩
            · have hd1 : decide ((i : Int) < (lenb : Int)) = false := decide_eq_false (by omega)
              have hz2 : z2 = false := by rw [HZ.out, decide_eq_false hlt, Bool.false_and]
              subst hz2
              clear HZ
              go_wp2
              go_meet
              case rel => exact ⟨rfl, rfl⟩
          case rest =>
            obtain ⟨rfl, hwc⟩ := hcut
            subst hwc
            cases z2
            · have HM : Hid (TyS w wc P R O' n' (2 * ((i + 1 : Nat) : Int)) r') := HS2.out.mono (by omega)
              clear HZ
              go_wp2
              go_roundw
              case rel => first | exact ⟨i + 1, n', O', r', (by go_num), rfl, (by omega), (by omega), (by omega), HM.out⟩ | ((repeat apply Exists.intro); exact ⟨⟨(by go_num), rfl, (by omega), (by omega), (by omega), HM.out⟩, rfl⟩)
              case measure => simp [RowKit.intOf]; omega
            · have hlt : i < lenb := by
                by_cases q : i < lenb
                · exact q
                · have hz := HZ.out; rw [decide_eq_false q, Bool.false_and] at hz; cases hz
              have hc : chB Y = true := by have hz := HZ.out; rw [decide_eq_true hlt, Bool.true_and] at hz; exact hz.symm
              clear HZ
              obtain ⟨b1, o1, hab, _⟩ := HYY.out hlt wc HBW.out
              subst hab
              have HYA : Hid (∀ w', Below w.heap.size w w' → w'.cell? ⟨b1, o1 + i, none⟩ = some (.int .i32 Y)) := fun w' hb => by
                obtain ⟨b9, o9, h9, c9⟩ := HYY.out hlt w' hb
                cases h9
                exact c9
              have hs0 := ht'.s1.1
              have hs1 := ht'.s1.2.1
              obtain ⟨S, hS⟩ : ∃ S, (lastO O' 65536).s = S := ⟨_, rfl⟩
              rw [hS] at hs0 hs1
              have HVE : Hid (Calls Try.prog 19 #[.pointer (some ⟨P, 0, none⟩)] wc fun e w' => ∃ a k c, e = .returned (.slice a k c) ∧ TyS w w' P R O' n' (2 * (i : Int) + 1) r' ∧ Calls Try.prog 26 #[.slice a k c, .int .i64 65536] w' fun e w2 => e = .returned (.int .i64 S) ∧ w2 = w') := by rw [← hS]; exact ts_vec HS2.out (by omega)
              have HPU : Hid (∀ V, TyS w V P R O' n' (2 * (i : Int) + 1) r' → Calls Try.prog 12 #[.pointer (some ⟨P, 0, none⟩), .agg #[.int .i64 (2 * (i : Int) + 2), .int .i64 65536, .int .i64 (S + 1), .bool true, .int .i64 0, .int .i64 0, .int .i32 Y]] V fun e w' => ∃ z, e = .returned (.tuple #[.bool true, .int .i64 z]) ∧ ∃ O2, O2.length ≤ 2 * (i + 1) ∧ TyS w w' P R O2 n' (2 * ((i + 1 : Nat) : Int)) r') := fun V h => by
                have := ts_putz h (by omega) Y hc (by omega) (by omega)
                rw [hS, show 2 * (i : Int) + 1 + 1 = 2 * (i : Int) + 2 by omega] at this
                refine this.mono fun e w' q => ?_
                obtain ⟨z, q1, q2⟩ := q
                exact ⟨z, q1, _, by rw [List.length_append]; simp; omega, q2.mono (by omega)⟩
              have HLT : Hid (∀ V V', TyS w V P R O' n' (2 * (i : Int) + 1) r' → Gw V V' → TyS w V' P R O' n' (2 * (i : Int) + 1) r') := fun V V' h hg => h.later hg.below
              have HYC : Hid (∀ V, TyS w V P R O' n' (2 * (i : Int) + 1) r' → V.cell? ⟨b1, o1 + i, none⟩ = some (.int .i32 Y)) := fun V h => HYA.out V h.1.below
              clear hS ht' hc HS2 HBW
              have hSl : S ≤ 200 := by omega
              go_upto_region 19 with (first
                | (go_at_call 19; refine HVE.out.mono ?_; rintro e wv ⟨va, vk, vc, rfl, q1, q2⟩; have HV1 : Hid (TyS w wv P R O' n' (2 * (i : Int) + 1) r') := q1; have HSE : Hid (Calls Try.prog 26 #[.slice va vk vc, .int .i64 65536] wv fun e w2 => e = .returned (.int .i64 S) ∧ w2 = wv) := q2; clear q1 q2)
                | (go_at_call 26; refine HSE.out.mono ?_; rintro e wv' ⟨rfl, hw⟩; subst hw))
              have cA := HYC.out _ HV1.out
              refine wp_region_noPanic ?_
              refine wp_region_held_drew (S := (fun w' => w'.cell? ⟨b1, o1 + i, none⟩ = some (.int .i32 Y))) (by kernel_rfl) (cA) (fun hHeld => ?_)
              refine wpAnyH_take (i := 0) (v := ?_) rfl (by kernel_rfl) (by kernel_rfl) (by kernel_rfl) (fun _ _ _ h => h) (Or.inl ⟨by rfl, ?_⟩) (by assumption) ?_
              rotate_left
              · intro W' hSw; obtain s0 := hSw; go_simp; try with_reducible rfl
              try simp only [Act.put, List.getElem_toArray, List.getElem_cons_succ, List.getElem_cons_zero, List.setIfInBounds_toArray, List.set_cons_zero, List.set_cons_succ]
              refine wpAnyH_take (i := 1) (v := ?_) rfl (by kernel_rfl) (by kernel_rfl) (by kernel_rfl) (fun _ _ _ h => h) (Or.inl ⟨by rfl, ?_⟩) (by assumption) ?_
              rotate_left
              · intro W' hSw; obtain s0 := hSw; go_simp; try with_reducible rfl
              try simp only [Act.put, List.getElem_toArray, List.getElem_cons_succ, List.getElem_cons_zero, List.setIfInBounds_toArray, List.set_cons_zero, List.set_cons_succ]
              refine wpAnyH_take (i := 2) (v := ?_) rfl (by kernel_rfl) (by kernel_rfl) (by kernel_rfl) (fun _ _ _ h => h) (Or.inl ⟨by rfl, ?_⟩) (by assumption) ?_
              rotate_left
              · intro W' hSw; obtain s0 := hSw; go_simp; try with_reducible rfl
              try simp only [Act.put, List.getElem_toArray, List.getElem_cons_succ, List.getElem_cons_zero, List.setIfInBounds_toArray, List.set_cons_zero, List.set_cons_succ]
              refine wpAnyH_take (i := 3) (v := ?_) rfl (by kernel_rfl) (by kernel_rfl) (by kernel_rfl) (fun _ _ _ h => h) (Or.inl ⟨by rfl, ?_⟩) (by assumption) ?_
              rotate_left
              · intro W' hSw; obtain s0 := hSw; go_simp; try with_reducible rfl
              try simp only [Act.put, List.getElem_toArray, List.getElem_cons_succ, List.getElem_cons_zero, List.setIfInBounds_toArray, List.set_cons_zero, List.set_cons_succ]
              refine wpAnyH_take (i := 5) (v := ?_) rfl (by kernel_rfl) (by kernel_rfl) (by kernel_rfl) (fun _ _ _ h => h) (Or.inl ⟨by rfl, ?_⟩) (by assumption) ?_
              rotate_left
              · intro W' hSw; obtain s0 := hSw; go_simp; try with_reducible rfl
              try simp only [Act.put, List.getElem_toArray, List.getElem_cons_succ, List.getElem_cons_zero, List.setIfInBounds_toArray, List.set_cons_zero, List.set_cons_succ]
              refine wpAnyH_take (i := 6) (v := ?_) rfl (by kernel_rfl) (by kernel_rfl) (by kernel_rfl) (fun _ _ _ h => h) (Or.inl ⟨by rfl, ?_⟩) (by assumption) ?_
              rotate_left
              · intro W' hSw; obtain s0 := hSw; go_simp; try with_reducible rfl
              try simp only [Act.put, List.getElem_toArray, List.getElem_cons_succ, List.getElem_cons_zero, List.setIfInBounds_toArray, List.set_cons_zero, List.set_cons_succ]
              refine wpAnyH_take (i := 7) (v := ?_) rfl (by kernel_rfl) (by kernel_rfl) (by kernel_rfl) (fun _ _ _ h => h) (Or.inl ⟨by rfl, ?_⟩) (by assumption) ?_
              rotate_left
              · intro W' hSw; obtain s0 := hSw; go_simp; try with_reducible rfl
              try simp only [Act.put, List.getElem_toArray, List.getElem_cons_succ, List.getElem_cons_zero, List.setIfInBounds_toArray, List.set_cons_zero, List.set_cons_succ]
              refine wpAnyH_take (i := 8) (v := ?_) rfl (by kernel_rfl) (by kernel_rfl) (by kernel_rfl) (fun _ _ _ h => h) (Or.inl ⟨by rfl, ?_⟩) (by assumption) ?_
              rotate_left
              · intro W' hSw; obtain s0 := hSw; go_simp; try with_reducible rfl
              try simp only [Act.put, List.getElem_toArray, List.getElem_cons_succ, List.getElem_cons_zero, List.setIfInBounds_toArray, List.set_cons_zero, List.set_cons_succ]
              refine wpAnyH_take (i := 9) (v := ?_) rfl (by kernel_rfl) (by kernel_rfl) (by kernel_rfl) (fun _ _ _ h => h) (Or.inl ⟨by rfl, ?_⟩) (by assumption) ?_
              rotate_left
              · intro W' hSw; obtain s0 := hSw; go_simp; try with_reducible rfl
              try simp only [Act.put, List.getElem_toArray, List.getElem_cons_succ, List.getElem_cons_zero, List.setIfInBounds_toArray, List.set_cons_zero, List.set_cons_succ]
              refine wpAnyH_ready (rs := [4]) (by kernel_rfl) (by simp) ?_
              refine AllReadyH.cons rfl (fun KK hK => ?_) AllReadyH.nil
              go_simp
              refine (HID.out _ _ _).mono ?_
              rintro e wi ⟨rfl, hg⟩
              have HV2 : Hid (TyS w wi P R O' n' (2 * (i : Int) + 1) r') := by
                refine HLT.out _ _ (HLT.out _ _ HV1.out ?_) hg
                first | exact gw_drewN _ 1 | exact Gw.refl _ | exact gw_drewN _ 0
              clear hg
              go_simp
              refine hK.out _ _ (HYC.out _ HV2.out) (fun hHeld => ?_)
              clear hK KK
              try simp only [Act.put, List.getElem_toArray, List.getElem_cons_succ, List.getElem_cons_zero, List.setIfInBounds_toArray, List.set_cons_zero, List.set_cons_succ]
              refine wpAnyH_take (i := 10) (v := ?_) rfl (by kernel_rfl) (by kernel_rfl) (by kernel_rfl) (fun _ _ _ h => h) (Or.inl ⟨by rfl, ?_⟩) (by assumption) ?_
              rotate_left
              · intro W' hSw; obtain s0 := hSw; go_simp; try with_reducible rfl
              try simp only [Act.put, List.getElem_toArray, List.getElem_cons_succ, List.getElem_cons_zero, List.setIfInBounds_toArray, List.set_cons_zero, List.set_cons_succ]
              refine wpAnyH_ready (rs := [11]) (by kernel_rfl) (by simp) ?_
              refine AllReadyH.cons rfl (fun KK hK => ?_) AllReadyH.nil
              go_simp
              have hwv : Value.int .i64 (IntKind.i64.wrap (IntKind.i64.wrap (2 * (i : Int)) + 2)) = .int .i64 (2 * (i : Int) + 2) := by rw [show IntKind.i64.wrap (2 * (i : Int)) = 2 * (i : Int) by rw [IntKind.wrap_i64]; omega, show IntKind.i64.wrap (2 * (i : Int) + 2) = 2 * (i : Int) + 2 by rw [IntKind.wrap_i64]; omega]
              rw [hwv]
              refine (HPU.out _ HV2.out).mono ?_
              rintro e w5 ⟨q, rfl, O2, hO2, hq⟩
              have HT5 : Hid (TyS w w5 P R O2 n' (2 * ((i + 1 : Nat) : Int)) r') := hq
              clear hq
              go_simp
              refine hK.out _ _ (HYA.out w5 HT5.out.1.below) (fun hHeld => ?_)
              clear hK KK
              try simp only [Act.put, List.getElem_toArray, List.getElem_cons_succ, List.getElem_cons_zero, List.setIfInBounds_toArray, List.set_cons_zero, List.set_cons_succ]
              refine wpAnyH_take (i := 12) (v := ?_) rfl (by kernel_rfl) (by kernel_rfl) (by kernel_rfl) (fun _ _ _ h => h) (Or.inl ⟨by rfl, ?_⟩) (by assumption) ?_
              rotate_left
              · intro W' hSw; obtain s0 := hSw; go_simp; try with_reducible rfl
              try simp only [Act.put, List.getElem_toArray, List.getElem_cons_succ, List.getElem_cons_zero, List.setIfInBounds_toArray, List.set_cons_zero, List.set_cons_succ]
              refine wpAnyH_take (i := 13) (v := ?_) rfl (by kernel_rfl) (by kernel_rfl) (by kernel_rfl) (fun _ _ _ h => h) (Or.inl ⟨by rfl, ?_⟩) (by assumption) ?_
              rotate_left
              · intro W' hSw; obtain s0 := hSw; go_simp; try with_reducible rfl
              try simp only [Act.put, List.getElem_toArray, List.getElem_cons_succ, List.getElem_cons_zero, List.setIfInBounds_toArray, List.set_cons_zero, List.set_cons_succ]
              refine wpAnyH_take (i := 14) (v := ?_) rfl (by kernel_rfl) (by kernel_rfl) (by kernel_rfl) (fun _ _ _ h => h) (Or.inl ⟨by rfl, ?_⟩) (by assumption) ?_
              rotate_left
              · intro W' hSw; obtain s0 := hSw; go_simp; try with_reducible rfl
              try simp only [Act.put, List.getElem_toArray, List.getElem_cons_succ, List.getElem_cons_zero, List.setIfInBounds_toArray, List.set_cons_zero, List.set_cons_succ]
              refine wpAnyH_take (i := 15) (v := ?_) rfl (by kernel_rfl) (by kernel_rfl) (by kernel_rfl) (fun _ _ _ h => h) (Or.inl ⟨by rfl, ?_⟩) (by assumption) ?_
              rotate_left
              · intro W' hSw; obtain s0 := hSw; go_simp; try with_reducible rfl
              try simp only [Act.put, List.getElem_toArray, List.getElem_cons_succ, List.getElem_cons_zero, List.setIfInBounds_toArray, List.set_cons_zero, List.set_cons_succ]
              refine wpAnyH_take (i := 16) (v := ?_) rfl (by kernel_rfl) (by kernel_rfl) (by kernel_rfl) (fun _ _ _ h => h) (Or.inl ⟨by rfl, ?_⟩) (by assumption) ?_
              rotate_left
              · intro W' hSw; obtain s0 := hSw; go_simp; try with_reducible rfl
              try simp only [Act.put, List.getElem_toArray, List.getElem_cons_succ, List.getElem_cons_zero, List.setIfInBounds_toArray, List.set_cons_zero, List.set_cons_succ]
              refine wpAnyH_done (by kernel_rfl) ?_ _
              refine NoPanic.normal ?_
              clear hHeld
              all_goals
                go_wp2_with fail
                go_roundw
                case rel => first | exact ⟨i + 1, n', O2, r', (by go_num), rfl, (by omega), (by omega), hO2, HT5.out⟩ | ((repeat apply Exists.intro); exact ⟨⟨(by go_num), rfl, (by omega), (by omega), hO2, HT5.out⟩, rfl⟩)
                case measure => simp [RowKit.intOf]; omega
    · have hd0 : decide ((i : Int) < 30) = false := decide_eq_false (by omega)
      clear HX HY HSH HNW HI0 HID HSZ
      have HIDS : Hid (Calls Try.prog 16 #[.pointer (some ⟨P, 0, none⟩)] wr fun e w' => ∃ a k c, e = .returned (.slice a k c) ∧ RdE w' a k (visI (els O)) ∧ k ≤ 100 ∧ Below w.heap.size w w') := ts_ids HS.out (by omega)
      obtain ⟨p, q, _, hlen, hB, hA, hC, hlt⟩ := ty_end ht
      generalize visI (els O) = L at *
      clear ht HS HSB
      have HF : Hid (∀ j, j < L.length → (j < p ∧ (L.getD j (0, 0)).2 = 65536) ∨ (p ≤ j ∧ j < p + n ∧ (L.getD j (0, 0)).2 = 0 ∧ (p < j → (L.getD (j - 1) (0, 0)).1 < (L.getD j (0, 0)).1)) ∨ (p + n ≤ j ∧ (L.getD j (0, 0)).2 = 65536)) := fun j hj => by
        rcases Nat.lt_or_ge j p with h | h
        · exact .inl ⟨h, hB j h⟩
        · rcases Nat.lt_or_ge j (p + n) with h2 | h2
          · exact .inr (.inl ⟨h, h2, hA j h h2, fun h3 => hlt j h3 h2⟩)
          · exact .inr (.inr ⟨h2, hC j h2 (by omega)⟩)
      clear hB hA hC hlt
      go_upto_region 26 with (go_at_call 16; refine HIDS.out.mono ?_; rintro e w3 ⟨la, k, lc, rfl, qr, qk, qb⟩; have HR : Hid (RdE w3 la k L ∧ Below w.heap.size w w3) := ⟨qr, qb⟩; have hkk : L.length = k := qr.1; clear qr qb)
      go_loopw [17, 18, 19] (fun x17 x18 x19 wr2 => ∃ j : Nat, x19 = .int .i64 (j : Int) ∧ j ≤ k ∧ x17 = .int .i64 (if j ≤ p ∨ n = 0 then -1 else (p : Int)) ∧ x18 = .int .i64 ((min (j - p) n : Nat) : Int) ∧ Gw w3 wr2) (fun _ _ x19 _ => k - (RowKit.intOf x19).toNat)
      case atStart => exact ⟨0, rfl, by omega, by simp, by simp, Gw.refl _⟩
      case round =>
        obtain ⟨j, h19, hjk, h17, h18, hg⟩ := hrel
        subst h19 h17 h18
        have HG : Hid (Gw w3 wr) := hg
        clear hg
        by_cases hj : j < k
        · have hd : decide ((j : Int) < (k : Int)) = true := decide_eq_true (by omega)
          have hF := HF.out j (by omega)
          obtain ⟨b1, o1, hab, c0, c1⟩ := (HR.out.1.later HG.out.below).at j hj
          subst hab
          rcases hF with ⟨g1, g2⟩ | ⟨g1, g2, g3, g4⟩ | ⟨g1, g2⟩
          · rw [g2] at c1
            have e1 : (if j ≤ p ∨ n = 0 then (-1 : Int) else (p : Int)) = if j + 1 ≤ p ∨ n = 0 then -1 else (p : Int) := by rw [if_pos (.inl (by omega)), if_pos (.inl (by omega))]
            have e2 : (min (j - p) n : Nat) = min (j + 1 - p) n := by rw [show j - p = 0 by omega, show j + 1 - p = 0 by omega]
            rw [e1, e2]
            go_wp2
            go_roundw
            case rel => exact ⟨j + 1, (by go_num), by omega, rfl, rfl, HG.out⟩
            case measure => simp [RowKit.intOf]; omega
          · rw [g3] at c1
            have hx1 : (if j + 1 ≤ p ∨ n = 0 then (-1 : Int) else (p : Int)) = (p : Int) := if_neg (by omega)
            have hx2 : (min (j + 1 - p) n : Nat) = j + 1 - p := by omega
            by_cases hjp : j = p
            · subst hjp
              have e1 : (if j ≤ j ∨ n = 0 then (-1 : Int) else (j : Int)) = -1 := if_pos (.inl (Nat.le_refl _))
              have e2 : (min (j - j) n : Nat) = 0 := by omega
              rw [e1, e2]
              have dz : decide ((0 : Int) > 0) = false := decide_eq_false (by omega)
              go_upto_region 31 with fail
              go_quiet (fail)
              go_wp2
              go_roundw
              case rel => exact ⟨j + 1, (by go_num), by omega, by rw [hx1], (by rw [hx2]; go_num), HG.out.trans (gw_drewN _ _)⟩
              case measure => simp [RowKit.intOf]; omega
            · have e1 : (if j ≤ p ∨ n = 0 then (-1 : Int) else (p : Int)) = (p : Int) := if_neg (by omega)
              have e2 : ((min (j - p) n : Nat) : Int) = (j : Int) - (p : Int) := by omega
              rw [e1, e2]
              obtain ⟨b9, o9, h9, d0, _⟩ := (HR.out.1.later HG.out.below).at (j - 1) (by omega)
              cases h9
              have hlt1 := g4 (by omega)
              have ej : ((j : Int) - 1).toNat = j - 1 := by omega
              have d0' : wr.cell? ⟨b1, o1 + ((j : Int) - 1).toNat * 2, none⟩ = some (.int .i64 (L.getD (j - 1) (0, 0)).1) := by rw [ej]; exact d0
              have dle : decide ((L.getD j (0, 0)).1 ≤ (L.getD (j - 1) (0, 0)).1) = false := decide_eq_false (by omega)
              obtain ⟨Z, hZ⟩ : ∃ Z : Int, (j : Int) - (p : Int) = Z := ⟨_, rfl⟩
              rw [hZ]
              have dz2 : (0 : Int) < Z := by omega
              have dz3 : Z ≤ 100 := by omega
              have dz : decide (Z > 0) = true := decide_eq_true dz2
              have dz4 : decide ((0 : Int) < Z) = true := decide_eq_true dz2
              have hadd : (p : Int) + Z = (j : Int) := by omega
              have hrel : Z + 1 = ((j + 1 - p : Nat) : Int) := by omega
              clear hZ
              have k1 : (0 : Int) ≤ (j : Int) - 1 := by omega
              have k2 : (j : Int) - 1 < (k : Int) := by omega
              clear g4 g2
              generalize (L.getD (j - 1) (0, 0)).1 = U at *
              generalize (L.getD j (0, 0)).1 = V at *
              go_upto_region 31 with fail
              go_quiet (fail)
              go_wp2
              go_roundw
              case rel => exact ⟨j + 1, (by go_num), by omega, by rw [hx1], (by rw [hx2, ← hrel]), HG.out.trans (gw_drewN _ _)⟩
              case measure => simp [RowKit.intOf]; omega
          · rw [g2] at c1
            have e1 : (if j ≤ p ∨ n = 0 then (-1 : Int) else (p : Int)) = if j + 1 ≤ p ∨ n = 0 then -1 else (p : Int) := by
              by_cases h0 : n = 0
              · rw [if_pos (.inr h0), if_pos (.inr h0)]
              · rw [if_neg (by omega), if_neg (by omega)]
            have e2 : (min (j - p) n : Nat) = min (j + 1 - p) n := by omega
            rw [e1, e2]
            go_wp2
            go_roundw
            case rel => exact ⟨j + 1, (by go_num), by omega, rfl, rfl, HG.out⟩
            case measure => simp [RowKit.intOf]; omega
        · obtain rfl : j = k := by omega
          have hd : decide ((j : Int) < (j : Int)) = false := decide_eq_false (by omega)
          have e2 : (min (j - p) n : Nat) = n := by omega
          rw [e2]
          generalize (if j ≤ p ∨ n = 0 then (-1 : Int) else (p : Int)) = F at *
          go_wp2
          go_ret
          exact ⟨rfl, HR.out.2.trans (HG.out.below.mono HR.out.2.size)⟩
end Go.Proofs.Yteicppfknkbelaa
