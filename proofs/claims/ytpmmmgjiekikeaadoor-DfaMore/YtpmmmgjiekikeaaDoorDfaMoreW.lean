/- The walk of DfaMore. -/
import Derived.Test.YtpmmmgjiekikeaaDoorDfaLf
import Derived.Deep.CutBlock
namespace Go.Proofs.YtpmmmgjiekikeaaDoor
open Go.RowKit Go.Shelf Go.Maps
set_option linter.unusedVariables false
set_option linter.unusedSimpArgs false

/-- What is built with one more. -/
def AgP (KN : Nat) (xs : List (Nd × Bool)) (wx : World) (pv : Option Addr) (ev : Int) : Prop := (ev = 7 ∧ pv = none) ∨ ∃ lb nx ou, ev = 0 ∧ pv = some ⟨lb, 0, none⟩ ∧ MchAt wx lb KN nx ou ∧ LeastOf KN xs nx ou
theorem BldP.again {KN : Nat} {xs : List (Nd × Bool)} {V : World} {e : Ending} {w' : World} (h : BldP (KN : Int) xs V e w') (ha : alwB (KN : Int) xs = true) : Below V.heap.size V w' ∧ ∃ pv ev, e = .returned (.tuple #[.pointer pv, .int .i64 ev]) ∧ AgP KN xs w' pv ev := by
  obtain ⟨hb, h1 | ⟨_, ⟨h2, _⟩ | ⟨lb, nx, ou, h3, h4, h5, _⟩⟩⟩ := h
  · rw [ha] at h1; cases h1.1
  · exact ⟨hb, none, 7, h2, .inl ⟨rfl, rfl⟩⟩
  · rw [show ((KN : Int)).toNat = KN by omega] at h4 h5
    exact ⟨hb, _, 0, h3, .inr ⟨lb, nx, ou, rfl, rfl, h4, h5⟩⟩
theorem own_slN {w : World} {B : Nat} {e : TypeId} {s n : Nat} {v : Value} {xs : List Value} (h : w.ownsRow B e s v n xs) : ∃ a c, v = .slice a n c := own_sl1 h
theorem two_old (w : World) (o1 o2 : Obj) : ((w.alloc o1).alloc o2).heap[w.heap.size]? = some o1 := by
  refine (((Below.refl _ (w.alloc o1)).alloc (Nat.le_refl _) _).block w.heap.size (by simp)).trans ?_
  exact heap_alloc_new w o1
set_option maxRecDepth 100000 in
set_option maxHeartbeats 8000000 in
theorem dfaMore_walk (K : Int) (D : Nat) (l : List (Nd × Bool)) (la : Option Addr) (lc : Nat) (w : World) (hT : TabD w) (hx : XRow w.heap.size w D la l) (hl : l.length ≤ 2600000000000) :
    Calls Tryd.prog 11 #[.int .i64 K, .slice la l.length lc] w fun e w' => e = .returned (.bool true) ∧ Below w.heap.size w w' := by
  obtain ⟨L, hL⟩ : ∃ L, L = l.length := ⟨_, rfl⟩
  have HTD : Hid (TabD w) := hT
  have HSH : Hid (Calls Tryd.prog 12 #[] w fun e w' => e = .returned (.bool true) ∧ Below w.heap.size w w') := shown_any w hT
  have HFEW : Hid (∀ V : World, Below w.heap.size w V → Calls Tryd.prog 13 #[.slice la L lc] V (FewP D l V)) := fun V hV => by
    rw [hL]; exact few_any D l la lc V ((hx.later hV).base hV.size) hl
  obtain ⟨j0, ji, jz0, jz1, jz2⟩ := info_parts info_ex
  have HJ : Hid (Tryd.prog.info? 40 = some j0 ∧ j0.zero = some (.agg #[.int .i64 0, .slice none 0 0, .slice none 0 0, .bool false]) ∧ j0.size = 4 ∧ j0.bytes = 64) := ⟨ji, jz0, jz1, jz2⟩
  rw [← hL]
  clear hT hx hl hL ji jz0 jz1 jz2
  go_enter Tryd.func11, Tryd.ntmps11
  go_wp2_with fail
  refine HSH.out.mono ?_
  rintro e w1 ⟨rfl, hb1⟩
  have HB1 : Hid (Below w.heap.size w w1) := hb1
  have HC2 : Hid (Calls Tryd.prog 13 #[.slice la L lc] w1 (FewP D l w1)) := HFEW.out w1 hb1
  clear hb1 HSH HFEW
  go_wp2_with fail
  refine HC2.out.mono ?_
  intro e w2 hf
  obtain ⟨hb2, xs, fl, a4, a5, c4, c5, rfl, h8, _, hfl, how4, _⟩ := hf
  have HB2 : Hid (Below w.heap.size w w2) := HB1.out.trans (hb2.mono HB1.out.size)
  have HFL : Hid (FlX w1.heap.size w2 D xs fl) := hfl.later (fun n us hi => hi.later hb2 D)
  have HO2 : Hid (w2.ownsRow w1.heap.size 40 4 (.slice a4 xs.length c4) xs.length fl) := how4
  have HS12 : Hid (w1.heap.size ≤ w2.heap.size) := hb2.size
  have HX4 : Hid (XRow w2.heap.size w2 D a4 xs) := (HFL.out.row how4).base hb2.size
  obtain ⟨N, hN⟩ : ∃ N, N = xs.length := ⟨_, rfl⟩
  have HN : Hid (N = xs.length) := hN
  have hN8 : (N : Int) ≤ 8 := by omega
  rw [← hN] at HO2 ⊢
  have HC3 : Hid (Calls Tryd.prog 14 #[.int .i64 K, .slice a4 N c4] w2 (BldP K xs w2)) := by
    have h := build_any D K xs a4 c4 w2 (HTD.out.later HB2.out) HX4.out (by omega)
    rw [← hN] at h
    exact h
  clear hb2 h8 HC2 hN hfl how4
  go_wp2_with fail
  refine HC3.out.mono ?_
  rintro e w3 ⟨hb3, hor⟩
  have HB3 : Hid (Below w.heap.size w w3) := HB2.out.trans (hb3.mono HB2.out.size)
  have HO3 : Hid (w3.ownsRow w1.heap.size 40 4 (.slice a4 N c4) N fl) := own_later5 HO2.out hb3
  have HF3 : Hid (FlX w1.heap.size w3 D xs fl) := HFL.out.later (fun n us hi => hi.later hb3 D)
  have HS13 : Hid (w1.heap.size ≤ w3.heap.size) := Nat.le_trans HS12.out hb3.size
  clear hb3 HC3
  rcases hor with ⟨_, rfl⟩ | ⟨hal, ⟨rfl, _⟩ | ⟨lb, nx, ou, rfl, hma, hle, hn4, hnb⟩⟩
  · go_wp2_with fail
    go_ret
    exact ⟨rfl, HB3.out⟩
  · go_wp2_with fail
    go_ret
    exact ⟨rfl, HB3.out⟩
  simp only [alwB, Bool.and_eq_true, decide_eq_true_eq, List.all_eq_true] at hal
  have hk1 := hal.1.1.1
  have HAL : Hid (alwB K xs = true) := by simp only [alwB, Bool.and_eq_true, decide_eq_true_eq, List.all_eq_true]; exact hal
  obtain ⟨KN, rfl⟩ : ∃ KN : Nat, K = (KN : Int) := ⟨K.toNat, by omega⟩
  rw [show ((KN : Int)).toNat = KN by omega] at hma hle hnb
  have HMA : Hid (MchAt w3 lb KN nx ou) := hma
  have HLE : Hid (LeastOf KN xs nx ou ∧ ¬ BigC KN xs) := ⟨hle, hnb⟩
  have HFL1 : Hid (∀ y, y ∈ fl → y.oneCell' = true) := HF3.out.one
  have HBA : Hid (∀ (V : World) (B gz cz : Nat) (x : Nd × Bool) (u0 u1 u2 : Value), Below w3.heap.size w3 V → InV V.heap.size V (D + 1) x.1 [u0, u1, u2] → V.ownsRow B 40 4 (.slice (some ⟨gz, 0, none⟩) (N + 1) cz) (N + 1) (fl ++ [u0, u1, u2, .bool x.2]) → Calls Tryd.prog 14 #[.int .i64 (KN : Int), .slice (some ⟨gz, 0, none⟩) (N + 1) cz] V (BldP (KN : Int) (xs ++ [x]) V)) := fun V B gz cz x u0 u1 u2 hV hin how => by
    have h1 : FlX V.heap.size V (D + 1) xs fl := by
      refine ⟨HF3.out.1, fun i hi => ?_⟩
      obtain ⟨us, g1, g2, g3⟩ := HF3.out.2 i hi
      exact ⟨us, ((g1.later hV D).base (Nat.le_trans HS13.out hV.size) D).mono (Nat.le_succ D), g2, g3⟩
    have h2 := h1.snoc hin
    have hl2 : (xs ++ [x]).length = N + 1 := by rw [List.length_append, HN.out]; rfl
    rw [← hl2] at how ⊢
    exact build_any (D + 1) (KN : Int) (xs ++ [x]) _ cz V ((HTD.out.later HB3.out).later hV) (h2.row how) (by rw [hl2]; omega)
  have HO3a : Hid (∀ V : World, Below w3.heap.size w3 V → V.ownsRow w1.heap.size 40 4 (.slice a4 N c4) N fl) := fun V hV => own_later5 HO3.out hV
  clear hal hma hle hnb hn4
  go_wp2_with (at_builtin; first
    | (refine wpList_append_row rfl _ _ 24 rfl w3.heap.size 40 j0 _ 4 64 Tryd.underlying24 HJ.out.1 HJ.out.2.1 HJ.out.2.2.1 HJ.out.2.2.2 rfl (by decide) (.slice (some ⟨w3.heap.size, 0, none⟩) 0 0) 0 [] rfl (own_empty w3 _ 4) w1.heap.size (.slice a4 N c4) N fl rfl (HO3a.out _ ((Below.refl _ w3).alloc (Nat.le_refl _) _)) HFL1.out (by unfold maxLen; omega) (by omega) (by simp) (fun v5 w5 q1 q2 => ?_); have HV5 : Hid (w5.ownsRow w3.heap.size 40 4 v5 N fl ∧ Below w3.heap.size w3 w5) := ⟨by simpa using q1, ((Below.refl _ w3).alloc (Nat.le_refl _) _).grown q2 (by simp) (fun k hk => by cases hk; exact Nat.le_refl _)⟩; clear q1 q2)
    | (obtain ⟨av, cv, hv5⟩ := own_slN HV5.out.1; subst hv5; refine wpList_append_lies _ rfl _ _ 24 rfl w3.heap.size 40 j0 _ 4 64 Tryd.underlying24 HJ.out.1 HJ.out.2.1 HJ.out.2.2.1 HJ.out.2.2.2 rfl (by decide) (.slice av N cv) N fl rfl (own_later5 HV5.out.1 ((Below.refl _ w5).alloc (Nat.le_refl _) _)) ⟨w5.heap.size, 0, none⟩ 1 1 [.int .i64 3, .slice none 0 0, .slice none 0 0, .bool false] rfl rfl (World.news_of_block (cs := #[.int .i64 3, .slice none 0 0, .slice none 0 0, .bool false]) (t := 40) (fr := (0, 0)) (heap_alloc_new w5 _)) (by simp [Value.oneCell']) (by omega) (by unfold maxLen; omega) (by omega) (by have := HV5.out.2.size; simp; omega) _ rfl (fun g6 cap6 w6 q1 q2 q3 q4 => ?_); have HV6 : Hid (w6.ownsRow w3.heap.size 40 4 (.slice (some ⟨g6, 0, none⟩) (N + 1) cap6) (N + 1) (fl ++ [.int .i64 3, .slice none 0 0, .slice none 0 0, .bool false]) ∧ Below w3.heap.size w3 w6) := ⟨q1, (HV5.out.2.alloc HV5.out.2.size _).grown q2 (by have := HV5.out.2.size; simp; omega) (fun k hk => (own_lt HV5.out.1 hk).1)⟩; clear q1 q2 q3 q4))
  have HB6 : Hid (Below w.heap.size w w6) := HB3.out.trans (HV6.out.2.mono HB3.out.size)
  refine (HBA.out w6 w3.heap.size g6 cap6 nvX _ _ _ HV6.out.2 (InV.leaf w6 D 3 [] none 0 (rd_nil _ _) (by simp) (fun _ => rfl)) HV6.out.1).mono ?_
  rintro e w7 ⟨hb7, hor⟩
  have HB37 : Hid (Below w3.heap.size w3 w7) := HV6.out.2.trans (hb7.mono HV6.out.2.size)
  have HB7 : Hid (Below w.heap.size w w7) := HB6.out.trans (hb7.mono HB6.out.size)
  clear hb7
  have hal2 : alwB (KN : Int) (xs ++ [nvX]) = true := alw_app HAL.out (by have := HN.out; omega) nv_ok (nv_bel _)
  rcases hor with ⟨h2, _⟩ | ⟨_, ⟨_, h2⟩ | ⟨lb2, nx2, ou2, rfl, hma2, hle2, _⟩⟩
  · rw [hal2] at h2; cases h2
  · exact absurd (big_nv h2.big) HLE.out.2
  rw [show ((KN : Int)).toNat = KN by omega] at hma2 hle2
  obtain ⟨rfl, rfl⟩ := least_one (HLE.out.1.swap (fun v i => (outC_nv xs v i).symm)) hle2
  have HEQ : Hid (Calls Tryd.prog 24 #[.pointer (some ⟨lb, 0, none⟩), .pointer (some ⟨lb2, 0, none⟩)] w7 fun e w' => e = .returned (.bool true) ∧ Below w7.heap.size w7 w') := by
    have h := equal_any w7 lb lb2 KN KN nx nx ou ou (HMA.out.later HB37.out) hma2
    rw [show decide (KN = KN ∧ ou = ou ∧ nx = nx) = true by simp] at h
    exact h
  clear hma2 hle2 hal2
  go_wp2_with fail
  refine HEQ.out.mono ?_
  rintro e w8 ⟨rfl, hb8⟩
  have HB38 : Hid (Below w3.heap.size w3 w8) := HB37.out.trans (hb8.mono HB37.out.size)
  have HB8 : Hid (Below w.heap.size w w8) := HB7.out.trans (hb8.mono HB7.out.size)
  clear hb8 HEQ
  rcases Nat.eq_zero_or_pos N with hN0 | hN0
  · have hz : ((N : Int) == 0) = true := by rw [hN0]; rfl
    clear hN0
    go_wp2_with fail
    go_ret
    exact ⟨rfl, HB8.out⟩
  have hz : ((N : Int) == 0) = false := by rw [beq_eq_false_iff_ne]; omega
  obtain ⟨q, hq⟩ : ∃ q, N = q + 1 := ⟨N - 1, by omega⟩
  have hqx : q < xs.length := by rw [← HN.out]; omega
  have HXQ : Hid (xs[xs.length - 1]? = some xs[q]) := by
    show xs[xs.length - 1]? = some xs[q]
    rw [show xs.length - 1 = q by rw [← HN.out]; omega]
    exact List.getElem?_eq_getElem hqx
  obtain ⟨us, hin, hus, hwh⟩ := HF3.out.2 q hqx
  obtain ⟨ca, cc, pa, pc, rfl⟩ := hin.three
  obtain ⟨x, hx⟩ : ∃ x, x = xs[q] := ⟨_, rfl⟩
  rw [← hx] at hin hus hwh HXQ
  have HALX : Hid (x.1.ok = true ∧ x.1.bel (KN : Int) = true) := by
    have h := HAL.out
    simp only [alwB, Bool.and_eq_true, decide_eq_true_eq, List.all_eq_true] at h
    exact h.2 x (by rw [hx]; exact List.getElem_mem hqx)
  obtain ⟨g4, cap4, hv4, hsrc⟩ := own_at HO3.out hN0
  simp only [Value.slice.injEq] at hv4
  obtain ⟨rfl, _, rfl⟩ := hv4
  have u0 := hus 0 _ rfl
  have u1 := hus 1 _ rfl
  have u2 := hus 2 _ rfl
  obtain ⟨op, hop⟩ : ∃ op, op = x.1.op := ⟨_, rfl⟩
  obtain ⟨cn, hcn⟩ : ∃ cn, cn = x.1.cl.length := ⟨_, rfl⟩
  obtain ⟨pn, hpn⟩ : ∃ pn, pn = (toL x.1.kids).length := ⟨_, rfl⟩
  obtain ⟨xb, hxb⟩ : ∃ xb, xb = x.2 := ⟨_, rfl⟩
  rw [← hop, ← hcn, ← hpn] at hin
  rw [← hop] at u0
  rw [← hcn] at u1
  rw [← hpn] at u2
  rw [← hxb] at hwh
  have HSRC : Hid (∀ V : World, Below w8.heap.size w8 V → ∀ j u, fl[j]? = some u → V.cell? ((⟨g4, 0, none⟩ : Addr).add j) = some u) := fun V hV j u hu => upC hV (upC HB38.out (hsrc j u hu))
  have HCEL : Hid (∀ V : World, Below w8.heap.size w8 V → V.cell? ⟨g4, q * 4, none⟩ = some (.int .i64 op) ∧ V.cell? ⟨g4, q * 4 + 1, none⟩ = some (.slice ca cn cc) ∧ V.cell? ⟨g4, q * 4 + 2, none⟩ = some (.slice pa pn pc) ∧ V.cell? ⟨g4, q * 4 + 3, none⟩ = some (.bool xb)) := fun V hV => by
    have hadd : ∀ j, (⟨g4, 0, none⟩ : Addr).add j = ⟨g4, j, none⟩ := fun j => by unfold Addr.add; split <;> simp_all
    have k0 := HSRC.out V hV _ _ u0
    have k1 := HSRC.out V hV _ _ u1
    have k2 := HSRC.out V hV _ _ u2
    have k3 := HSRC.out V hV _ _ hwh
    rw [hadd] at k0 k1 k2 k3
    exact ⟨k0, k1, k2, k3⟩
  have HBAX : Hid (∀ (V : World) (gz cz : Nat), Below w8.heap.size w8 V → V.ownsRow w8.heap.size 40 4 (.slice (some ⟨gz, 0, none⟩) (N + 1) cz) (N + 1) (fl ++ [.int .i64 op, .slice ca cn cc, .slice pa pn pc, .bool xb]) → Calls Tryd.prog 14 #[.int .i64 (KN : Int), .slice (some ⟨gz, 0, none⟩) (N + 1) cz] V (BldP (KN : Int) (xs ++ [x]) V)) := fun V gz cz hV how => by
    have c3 := HB38.out.trans (hV.mono HB38.out.size)
    rw [hxb] at how
    exact HBA.out V w8.heap.size gz cz x _ _ _ c3 (((hin.later c3 D).base (Nat.le_trans HS13.out c3.size) D).mono (Nat.le_succ D)) how
  have HXL : Hid (x = xs[q]) := hx
  have hqi : (N : Int) - 1 = (q : Int) := by omega
  have hqN : (q : Int) < (N : Int) := by omega
  have hq0 : (0 : Int) ≤ (q : Int) := by omega
  have hqw : IntKind.i64.wrap (q : Int) = (q : Int) := by rw [IntKind.wrap_i64]; omega
  have HQ : Hid (N = q + 1) := hq
  clear hin hus hwh u0 u1 u2 hop hcn hpn hxb hsrc hx hq
  have HFLN : Hid (fl.length = N * 4) := by
    show fl.length = N * 4
    rw [HF3.out.1, HN.out]
  go_upto_region 13 with fail
  go_cut [14, 15] (fun x14 x15 wx => ∃ pv ev, x14 = .pointer pv ∧ x15 = .int .i64 ev ∧ Below w8.heap.size w8 wx ∧ AgP KN (xs ++ [x]) wx pv ev)
  case first =>
    refine wp_region_noPanic ?_
    refine wp_region_held_drew (S := (fun w' => Below w8.heap.size w8 w')) (by kernel_rfl) (Below.refl _ w8).drew (fun hHeld => ?_)
    refine wpAnyH_take (i := 0) (v := ?_) rfl (by kernel_rfl) (by kernel_rfl) (by kernel_rfl) (fun _ _ _ h => h) (Or.inl ⟨by rfl, ?_⟩) (by assumption) ?_
    rotate_left
    · intro w hSw; clear hSw; go_simp; try with_reducible rfl
    try simp only [Act.put, List.getElem_toArray, List.getElem_cons_succ, List.getElem_cons_zero, List.setIfInBounds_toArray, List.set_cons_zero, List.set_cons_succ]
    refine wpAnyH_take (i := 2) (v := ?_) rfl (by kernel_rfl) (by kernel_rfl) (by kernel_rfl) (fun _ _ _ h => h) (Or.inl ⟨by rfl, ?_⟩) (by assumption) ?_
    rotate_left
    · intro w hSw; clear hSw; go_simp; try with_reducible rfl
    try simp only [Act.put, List.getElem_toArray, List.getElem_cons_succ, List.getElem_cons_zero, List.setIfInBounds_toArray, List.set_cons_zero, List.set_cons_succ]
    refine wpAnyH_take (i := 4) (v := ?_) rfl (by kernel_rfl) (by kernel_rfl) (by kernel_rfl) (fun _ _ _ h => h) (Or.inl ⟨by rfl, ?_⟩) (by assumption) ?_
    rotate_left
    · intro w hSw; clear hSw; go_simp; try with_reducible rfl
    try simp only [Act.put, List.getElem_toArray, List.getElem_cons_succ, List.getElem_cons_zero, List.setIfInBounds_toArray, List.set_cons_zero, List.set_cons_succ]
    refine wpAnyH_take (i := 5) (v := ?_) rfl (by kernel_rfl) (by kernel_rfl) (by kernel_rfl) (fun _ _ _ h => h) (Or.inl ⟨by rfl, ?_⟩) (by assumption) ?_
    rotate_left
    · intro w hSw; clear hSw; go_simp; try with_reducible rfl
    try simp only [Act.put, List.getElem_toArray, List.getElem_cons_succ, List.getElem_cons_zero, List.setIfInBounds_toArray, List.set_cons_zero, List.set_cons_succ]
    refine wpAnyH_take (i := 6) (v := ?_) rfl (by kernel_rfl) (by kernel_rfl) (by kernel_rfl) (fun _ _ _ h => h) (Or.inl ⟨by rfl, ?_⟩) (by assumption) ?_
    rotate_left
    · intro w hSw; clear hSw; go_simp; try with_reducible rfl
    try simp only [Act.put, List.getElem_toArray, List.getElem_cons_succ, List.getElem_cons_zero, List.setIfInBounds_toArray, List.set_cons_zero, List.set_cons_succ]
    refine wpAnyH_take (i := 7) (v := ?_) rfl (by kernel_rfl) (by kernel_rfl) (by kernel_rfl) (fun _ _ _ h => h) (Or.inl ⟨by rfl, ?_⟩) (by assumption) ?_
    rotate_left
    · intro w hSw; clear hSw; go_simp; try with_reducible rfl
    try simp only [Act.put, List.getElem_toArray, List.getElem_cons_succ, List.getElem_cons_zero, List.setIfInBounds_toArray, List.set_cons_zero, List.set_cons_succ]
    refine wpAnyH_take (i := 8) (v := ?_) rfl (by kernel_rfl) (by kernel_rfl) (by kernel_rfl) (fun _ _ _ h => h) (Or.inl ⟨by rfl, ?_⟩) (by assumption) ?_
    rotate_left
    · intro w hSw; obtain ⟨k0, k1, k2, k3⟩ := HCEL.out w hSw; clear hSw; go_simp; try with_reducible rfl
    try simp only [Act.put, List.getElem_toArray, List.getElem_cons_succ, List.getElem_cons_zero, List.setIfInBounds_toArray, List.set_cons_zero, List.set_cons_succ]
    refine wpAnyH_ready (rs := [1, 9]) (by kernel_rfl) (by simp) ?_
    refine AllReadyH.cons rfl (fun KK hK => ?_) ?_
    · skip
      go_simp
      refine hK.out _ _ ?_ (fun hHeld => ?_)
      · exact (Below.refl _ w8).drew.alloc (by simp) _
      clear hK KK
      try simp only [Act.put, List.getElem_toArray, List.getElem_cons_succ, List.getElem_cons_zero, List.setIfInBounds_toArray, List.set_cons_zero, List.set_cons_succ]
      refine wpAnyH_ready (rs := [3, 9]) (by kernel_rfl) (by simp) ?_
      refine AllReadyH.cons rfl (fun KK hK => ?_) ?_
      · skip
        refine step_append_lies _ (by rfl) _ _ 24 (by rfl) w8.heap.size 40 j0 _ 4 64 Tryd.underlying24 HJ.out.1 HJ.out.2.1 HJ.out.2.2.1 HJ.out.2.2.2 rfl (by decide) (.slice (some ⟨w8.heap.size, 0, none⟩) 0 0) 0 [] (by rfl) (by first | exact World.ownsRow_made _ #[] 0 (by first | (simp; done) | exact Nat.le_refl _ | omega) (by simp [maxLen]) rfl) ⟨g4, 0, none⟩ N c4 fl (by rfl) HFLN.out (HSRC.out _ ((Below.refl _ w8).drew.alloc (by simp) _)) HFL1.out hN0 (by unfold maxLen; omega) (by omega) (by first | (simp; done) | (simp; omega)) _ rfl (fun gx cx w9 h1 h2 h3 h4 => ?_)
        have HA9 : Hid (w9.ownsRow w8.heap.size 40 4 (.slice (some ⟨gx, 0, none⟩) N cx) N fl) := by
          have h := h1
          rw [Nat.zero_add, List.nil_append] at h
          exact h
        have H9 : Hid (Below w8.heap.size w8 w9) := ((Below.refl _ w8).drew.alloc (by simp) _).grown h2 (by first | (simp; done) | (simp; omega)) (fun k hk => by cases hk; first | exact Nat.le_refl _ | (simp; done) | (simp; omega))
        rw [Nat.zero_add]
        refine hK.out _ _ ?_ (fun hHeld => ?_)
        · exact H9.out
        clear hK KK h1 h2 h3 h4
        try simp only [Act.put, List.getElem_toArray, List.getElem_cons_succ, List.getElem_cons_zero, List.setIfInBounds_toArray, List.set_cons_zero, List.set_cons_succ]
        refine wpAnyH_ready (rs := [9]) (by kernel_rfl) (by simp) ?_
        refine AllReadyH.cons rfl (fun KK hK => ?_) ?_
        · skip
          go_simp
          refine hK.out _ _ ?_ (fun hHeld => ?_)
          · exact H9.out.alloc H9.out.size _
          clear hK KK
          try simp only [Act.put, List.getElem_toArray, List.getElem_cons_succ, List.getElem_cons_zero, List.setIfInBounds_toArray, List.set_cons_zero, List.set_cons_succ]
          refine wpAnyH_ready (rs := [10]) (by kernel_rfl) (by simp) ?_
          refine AllReadyH.cons rfl (fun KK hK => ?_) ?_
          · skip
            refine step_append_lies _ (by rfl) _ _ 24 (by rfl) w8.heap.size 40 j0 _ 4 64 Tryd.underlying24 HJ.out.1 HJ.out.2.1 HJ.out.2.2.1 HJ.out.2.2.2 rfl (by decide) (.slice (some ⟨gx, 0, none⟩) N cx) N fl (by rfl) (own_later5 HA9.out ((Below.refl _ w9).alloc (Nat.le_refl _) _)) ⟨w9.heap.size, 0, none⟩ 1 1 [.int .i64 op, .slice ca cn cc, .slice pa pn pc, .bool xb] (by rfl) (by rfl) (World.news_of_block (cs := #[.int .i64 op, .slice ca cn cc, .slice pa pn pc, .bool xb]) (t := 40) (fr := (0, 0)) (heap_alloc_new w9 _)) (by simp [Value.oneCell']) (by omega) (by unfold maxLen; omega) (by omega) (by have := H9.out.size; first | (simp; done) | (simp; omega) | omega) _ rfl (fun gz cz w10 h1 h2 h3 h4 => ?_)
            have HA10 : Hid (w10.ownsRow w8.heap.size 40 4 (.slice (some ⟨gz, 0, none⟩) (N + 1) cz) (N + 1) (fl ++ [.int .i64 op, .slice ca cn cc, .slice pa pn pc, .bool xb])) := h1
            have H10 : Hid (Below w8.heap.size w8 w10) := (H9.out.alloc H9.out.size _).grown h2 (by have := H9.out.size; first | (simp; done) | (simp; omega) | omega) (fun k hk => (own_lt HA9.out hk).1)
            refine hK.out _ _ ?_ (fun hHeld => ?_)
            · exact H10.out
            clear hK KK h1 h2 h3 h4
            try simp only [Act.put, List.getElem_toArray, List.getElem_cons_succ, List.getElem_cons_zero, List.setIfInBounds_toArray, List.set_cons_zero, List.set_cons_succ]
            refine wpAnyH_ready (rs := [11]) (by kernel_rfl) (by simp) ?_
            refine AllReadyH.cons rfl (fun KK hK => ?_) ?_
            · skip
              clear hHeld
              go_simp
              refine (HBAX.out w10 gz cz H10.out HA10.out).mono ?_
              intro e w11 hbl
              obtain ⟨hb11, pv, ev, rfl, hag⟩ := hbl.again (alw_app HAL.out (by have := HN.out; omega) HALX.out.1 HALX.out.2)
              have H11 : Hid (Below w8.heap.size w8 w11) := H10.out.trans (hb11.mono H10.out.size)
              have HAG : Hid (AgP KN (xs ++ [x]) w11 pv ev) := hag
              clear hbl hb11 hag
              try dsimp only
              refine hK.out _ _ ?_ (fun hHeld => ?_)
              · exact H11.out
              clear hK KK
              try simp only [Act.put, List.getElem_toArray, List.getElem_cons_succ, List.getElem_cons_zero, List.setIfInBounds_toArray, List.set_cons_zero, List.set_cons_succ]
              refine wpAnyH_take (i := 12) (v := ?_) rfl (by kernel_rfl) (by kernel_rfl) (by kernel_rfl) (fun _ _ _ h => h) (Or.inl ⟨by rfl, ?_⟩) (by assumption) ?_
              rotate_left
              · intro w hSw; clear hSw; go_simp; try with_reducible rfl
              try simp only [Act.put, List.getElem_toArray, List.getElem_cons_succ, List.getElem_cons_zero, List.setIfInBounds_toArray, List.set_cons_zero, List.set_cons_succ]
              refine wpAnyH_take (i := 13) (v := ?_) rfl (by kernel_rfl) (by kernel_rfl) (by kernel_rfl) (fun _ _ _ h => h) (Or.inl ⟨by rfl, ?_⟩) (by assumption) ?_
              rotate_left
              · intro w hSw; clear hSw; go_simp; try with_reducible rfl
              try simp only [Act.put, List.getElem_toArray, List.getElem_cons_succ, List.getElem_cons_zero, List.setIfInBounds_toArray, List.set_cons_zero, List.set_cons_succ]
              refine wpAnyH_take (i := 14) (v := ?_) rfl (by kernel_rfl) (by kernel_rfl) (by kernel_rfl) (fun _ _ _ h => h) (Or.inl ⟨by rfl, ?_⟩) (by assumption) ?_
              rotate_left
              · intro w hSw; clear hSw; go_simp; try with_reducible rfl
              try simp only [Act.put, List.getElem_toArray, List.getElem_cons_succ, List.getElem_cons_zero, List.setIfInBounds_toArray, List.set_cons_zero, List.set_cons_succ]
              refine wpAnyH_take (i := 15) (v := ?_) rfl (by kernel_rfl) (by kernel_rfl) (by kernel_rfl) (fun _ _ _ h => h) (Or.inl ⟨by rfl, ?_⟩) (by assumption) ?_
              rotate_left
              · intro w hSw; clear hSw; go_simp; try with_reducible rfl
              try simp only [Act.put, List.getElem_toArray, List.getElem_cons_succ, List.getElem_cons_zero, List.setIfInBounds_toArray, List.set_cons_zero, List.set_cons_succ]
              refine wpAnyH_take (i := 16) (v := ?_) rfl (by kernel_rfl) (by kernel_rfl) (by kernel_rfl) (fun _ _ _ h => h) (Or.inl ⟨by rfl, ?_⟩) (by assumption) ?_
              rotate_left
              · intro w hSw; clear hSw; go_simp; try with_reducible rfl
              try simp only [Act.put, List.getElem_toArray, List.getElem_cons_succ, List.getElem_cons_zero, List.setIfInBounds_toArray, List.set_cons_zero, List.set_cons_succ]
              refine wpAnyH_done (by kernel_rfl) ?_ _
              refine NoPanic.normal ?_
              clear hHeld
              go_wp2_with fail
              go_meet
              exact ⟨pv, ev, rfl, rfl, H11.out, HAG.out⟩
            exact AllReadyH.nil
          exact AllReadyH.nil
        exact AllReadyH.nil
      refine AllReadyH.cons rfl (fun KK hK => ?_) ?_
      · skip
        go_simp
        refine hK.out _ _ ?_ (fun hHeld => ?_)
        · exact ((Below.refl _ w8).drew.alloc (by simp) _).alloc (by simp) _
        clear hK KK
        try simp only [Act.put, List.getElem_toArray, List.getElem_cons_succ, List.getElem_cons_zero, List.setIfInBounds_toArray, List.set_cons_zero, List.set_cons_succ]
        refine wpAnyH_ready (rs := [3]) (by kernel_rfl) (by simp) ?_
        refine AllReadyH.cons rfl (fun KK hK => ?_) ?_
        · skip
          refine step_append_lies _ (by rfl) _ _ 24 (by rfl) w8.heap.size 40 j0 _ 4 64 Tryd.underlying24 HJ.out.1 HJ.out.2.1 HJ.out.2.2.1 HJ.out.2.2.2 rfl (by decide) (.slice (some ⟨w8.heap.size, 0, none⟩) 0 0) 0 [] (by rfl) (by first | exact own_later5 (own_empty w8 _ 4) ((Below.refl _ _).alloc (Nat.le_refl _) _).drew) ⟨g4, 0, none⟩ N c4 fl (by rfl) HFLN.out (HSRC.out _ (((Below.refl _ w8).drew.alloc (by simp) _).alloc (by simp) _)) HFL1.out hN0 (by unfold maxLen; omega) (by omega) (by first | (simp; done) | (simp; omega)) _ rfl (fun gx cx w9 h1 h2 h3 h4 => ?_)
          have HA9 : Hid (w9.ownsRow w8.heap.size 40 4 (.slice (some ⟨gx, 0, none⟩) N cx) N fl) := by
            have h := h1
            rw [Nat.zero_add, List.nil_append] at h
            exact h
          have H9 : Hid (Below w8.heap.size w8 w9) := (((Below.refl _ w8).drew.alloc (by simp) _).alloc (by simp) _).grown h2 (by first | (simp; done) | (simp; omega)) (fun k hk => by cases hk; first | exact Nat.le_refl _ | (simp; done) | (simp; omega))
          have HSB : Hid (w9.heap[w8.heap.size + 1]? = some (.cells #[.int .i64 op, .slice ca cn cc, .slice pa pn pc, .bool xb] 40)) := (h2.block (w8.heap.size + 1) (by first | (simp; done) | (simp; omega)) (by simp [Value.ownBlock])).trans (new_at2 w8.drew _ _)
          rw [Nat.zero_add]
          refine hK.out _ _ ?_ (fun hHeld => ?_)
          · exact H9.out
          clear hK KK h1 h2 h3 h4
          try simp only [Act.put, List.getElem_toArray, List.getElem_cons_succ, List.getElem_cons_zero, List.setIfInBounds_toArray, List.set_cons_zero, List.set_cons_succ]
          refine wpAnyH_ready (rs := [10]) (by kernel_rfl) (by simp) ?_
          refine AllReadyH.cons rfl (fun KK hK => ?_) ?_
          · skip
            refine step_append_lies _ (by rfl) _ _ 24 (by rfl) w8.heap.size 40 j0 _ 4 64 Tryd.underlying24 HJ.out.1 HJ.out.2.1 HJ.out.2.2.1 HJ.out.2.2.2 rfl (by decide) (.slice (some ⟨gx, 0, none⟩) N cx) N fl (by rfl) (HA9.out) ⟨w8.heap.size + 1, 0, none⟩ 1 1 [.int .i64 op, .slice ca cn cc, .slice pa pn pc, .bool xb] (by rfl) (by rfl) (World.news_of_block (cs := #[.int .i64 op, .slice ca cn cc, .slice pa pn pc, .bool xb]) (t := 40) (fr := (0, 0)) (HSB.out)) (by simp [Value.oneCell']) (by omega) (by unfold maxLen; omega) (by omega) (by have := H9.out.size; first | (simp; done) | (simp; omega) | omega) _ rfl (fun gz cz w10 h1 h2 h3 h4 => ?_)
            have HA10 : Hid (w10.ownsRow w8.heap.size 40 4 (.slice (some ⟨gz, 0, none⟩) (N + 1) cz) (N + 1) (fl ++ [.int .i64 op, .slice ca cn cc, .slice pa pn pc, .bool xb])) := h1
            have H10 : Hid (Below w8.heap.size w8 w10) := (H9.out).grown h2 (by have := H9.out.size; first | (simp; done) | (simp; omega) | omega) (fun k hk => (own_lt HA9.out hk).1)
            refine hK.out _ _ ?_ (fun hHeld => ?_)
            · exact H10.out
            clear hK KK h1 h2 h3 h4
            try simp only [Act.put, List.getElem_toArray, List.getElem_cons_succ, List.getElem_cons_zero, List.setIfInBounds_toArray, List.set_cons_zero, List.set_cons_succ]
            refine wpAnyH_ready (rs := [11]) (by kernel_rfl) (by simp) ?_
            refine AllReadyH.cons rfl (fun KK hK => ?_) ?_
            · skip
              clear hHeld
              go_simp
              refine (HBAX.out w10 gz cz H10.out HA10.out).mono ?_
              intro e w11 hbl
              obtain ⟨hb11, pv, ev, rfl, hag⟩ := hbl.again (alw_app HAL.out (by have := HN.out; omega) HALX.out.1 HALX.out.2)
              have H11 : Hid (Below w8.heap.size w8 w11) := H10.out.trans (hb11.mono H10.out.size)
              have HAG : Hid (AgP KN (xs ++ [x]) w11 pv ev) := hag
              clear hbl hb11 hag
              try dsimp only
              refine hK.out _ _ ?_ (fun hHeld => ?_)
              · exact H11.out
              clear hK KK
              try simp only [Act.put, List.getElem_toArray, List.getElem_cons_succ, List.getElem_cons_zero, List.setIfInBounds_toArray, List.set_cons_zero, List.set_cons_succ]
              refine wpAnyH_take (i := 12) (v := ?_) rfl (by kernel_rfl) (by kernel_rfl) (by kernel_rfl) (fun _ _ _ h => h) (Or.inl ⟨by rfl, ?_⟩) (by assumption) ?_
              rotate_left
              · intro w hSw; clear hSw; go_simp; try with_reducible rfl
              try simp only [Act.put, List.getElem_toArray, List.getElem_cons_succ, List.getElem_cons_zero, List.setIfInBounds_toArray, List.set_cons_zero, List.set_cons_succ]
              refine wpAnyH_take (i := 13) (v := ?_) rfl (by kernel_rfl) (by kernel_rfl) (by kernel_rfl) (fun _ _ _ h => h) (Or.inl ⟨by rfl, ?_⟩) (by assumption) ?_
              rotate_left
              · intro w hSw; clear hSw; go_simp; try with_reducible rfl
              try simp only [Act.put, List.getElem_toArray, List.getElem_cons_succ, List.getElem_cons_zero, List.setIfInBounds_toArray, List.set_cons_zero, List.set_cons_succ]
              refine wpAnyH_take (i := 14) (v := ?_) rfl (by kernel_rfl) (by kernel_rfl) (by kernel_rfl) (fun _ _ _ h => h) (Or.inl ⟨by rfl, ?_⟩) (by assumption) ?_
              rotate_left
              · intro w hSw; clear hSw; go_simp; try with_reducible rfl
              try simp only [Act.put, List.getElem_toArray, List.getElem_cons_succ, List.getElem_cons_zero, List.setIfInBounds_toArray, List.set_cons_zero, List.set_cons_succ]
              refine wpAnyH_take (i := 15) (v := ?_) rfl (by kernel_rfl) (by kernel_rfl) (by kernel_rfl) (fun _ _ _ h => h) (Or.inl ⟨by rfl, ?_⟩) (by assumption) ?_
              rotate_left
              · intro w hSw; clear hSw; go_simp; try with_reducible rfl
              try simp only [Act.put, List.getElem_toArray, List.getElem_cons_succ, List.getElem_cons_zero, List.setIfInBounds_toArray, List.set_cons_zero, List.set_cons_succ]
              refine wpAnyH_take (i := 16) (v := ?_) rfl (by kernel_rfl) (by kernel_rfl) (by kernel_rfl) (fun _ _ _ h => h) (Or.inl ⟨by rfl, ?_⟩) (by assumption) ?_
              rotate_left
              · intro w hSw; clear hSw; go_simp; try with_reducible rfl
              try simp only [Act.put, List.getElem_toArray, List.getElem_cons_succ, List.getElem_cons_zero, List.setIfInBounds_toArray, List.set_cons_zero, List.set_cons_succ]
              refine wpAnyH_done (by kernel_rfl) ?_ _
              refine NoPanic.normal ?_
              clear hHeld
              go_wp2_with fail
              go_meet
              exact ⟨pv, ev, rfl, rfl, H11.out, HAG.out⟩
            exact AllReadyH.nil
          exact AllReadyH.nil
        exact AllReadyH.nil
      exact AllReadyH.nil
    refine AllReadyH.cons rfl (fun KK hK => ?_) ?_
    · skip
      go_simp
      refine hK.out _ _ ?_ (fun hHeld => ?_)
      · exact (Below.refl _ w8).drew.alloc (by simp) _
      clear hK KK
      try simp only [Act.put, List.getElem_toArray, List.getElem_cons_succ, List.getElem_cons_zero, List.setIfInBounds_toArray, List.set_cons_zero, List.set_cons_succ]
      refine wpAnyH_ready (rs := [1]) (by kernel_rfl) (by simp) ?_
      refine AllReadyH.cons rfl (fun KK hK => ?_) ?_
      · skip
        go_simp
        refine hK.out _ _ ?_ (fun hHeld => ?_)
        · exact ((Below.refl _ w8).drew.alloc (by simp) _).alloc (by simp) _
        clear hK KK
        try simp only [Act.put, List.getElem_toArray, List.getElem_cons_succ, List.getElem_cons_zero, List.setIfInBounds_toArray, List.set_cons_zero, List.set_cons_succ]
        refine wpAnyH_ready (rs := [3]) (by kernel_rfl) (by simp) ?_
        refine AllReadyH.cons rfl (fun KK hK => ?_) ?_
        · skip
          refine step_append_lies _ (by rfl) _ _ 24 (by rfl) w8.heap.size 40 j0 _ 4 64 Tryd.underlying24 HJ.out.1 HJ.out.2.1 HJ.out.2.2.1 HJ.out.2.2.2 rfl (by decide) (.slice (some ⟨w8.heap.size + 1, 0, none⟩) 0 0) 0 [] (by rfl) (by have h3 := World.ownsRow_made (base := w8.heap.size) (e := 40) (size := 4) (w8.drew.alloc (.cells #[.int .i64 op, .slice ca cn cc, .slice pa pn pc, .bool xb] 40)) #[] 0 (by simp) (by simp [maxLen]) rfl; rw [show (w8.drew.alloc (.cells #[.int .i64 op, .slice ca cn cc, .slice pa pn pc, .bool xb] 40)).heap.size = w8.heap.size + 1 by simp] at h3; exact h3) ⟨g4, 0, none⟩ N c4 fl (by rfl) HFLN.out (HSRC.out _ (((Below.refl _ w8).drew.alloc (by simp) _).alloc (by simp) _)) HFL1.out hN0 (by unfold maxLen; omega) (by omega) (by first | (simp; done) | (simp; omega)) _ rfl (fun gx cx w9 h1 h2 h3 h4 => ?_)
          have HA9 : Hid (w9.ownsRow w8.heap.size 40 4 (.slice (some ⟨gx, 0, none⟩) N cx) N fl) := by
            have h := h1
            rw [Nat.zero_add, List.nil_append] at h
            exact h
          have H9 : Hid (Below w8.heap.size w8 w9) := (((Below.refl _ w8).drew.alloc (by simp) _).alloc (by simp) _).grown h2 (by first | (simp; done) | (simp; omega)) (fun k hk => by cases hk; first | exact Nat.le_refl _ | (simp; done) | (simp; omega))
          have HSB : Hid (w9.heap[w8.heap.size]? = some (.cells #[.int .i64 op, .slice ca cn cc, .slice pa pn pc, .bool xb] 40)) := (h2.block w8.heap.size (by first | (simp; done) | (simp; omega)) (by simp [Value.ownBlock])).trans (two_old w8.drew _ _)
          rw [Nat.zero_add]
          refine hK.out _ _ ?_ (fun hHeld => ?_)
          · exact H9.out
          clear hK KK h1 h2 h3 h4
          try simp only [Act.put, List.getElem_toArray, List.getElem_cons_succ, List.getElem_cons_zero, List.setIfInBounds_toArray, List.set_cons_zero, List.set_cons_succ]
          refine wpAnyH_ready (rs := [10]) (by kernel_rfl) (by simp) ?_
          refine AllReadyH.cons rfl (fun KK hK => ?_) ?_
          · skip
            refine step_append_lies _ (by rfl) _ _ 24 (by rfl) w8.heap.size 40 j0 _ 4 64 Tryd.underlying24 HJ.out.1 HJ.out.2.1 HJ.out.2.2.1 HJ.out.2.2.2 rfl (by decide) (.slice (some ⟨gx, 0, none⟩) N cx) N fl (by rfl) (HA9.out) ⟨w8.heap.size, 0, none⟩ 1 1 [.int .i64 op, .slice ca cn cc, .slice pa pn pc, .bool xb] (by rfl) (by rfl) (World.news_of_block (cs := #[.int .i64 op, .slice ca cn cc, .slice pa pn pc, .bool xb]) (t := 40) (fr := (0, 0)) (HSB.out)) (by simp [Value.oneCell']) (by omega) (by unfold maxLen; omega) (by omega) (by have := H9.out.size; first | (simp; done) | (simp; omega) | omega) _ rfl (fun gz cz w10 h1 h2 h3 h4 => ?_)
            have HA10 : Hid (w10.ownsRow w8.heap.size 40 4 (.slice (some ⟨gz, 0, none⟩) (N + 1) cz) (N + 1) (fl ++ [.int .i64 op, .slice ca cn cc, .slice pa pn pc, .bool xb])) := h1
            have H10 : Hid (Below w8.heap.size w8 w10) := (H9.out).grown h2 (by have := H9.out.size; first | (simp; done) | (simp; omega) | omega) (fun k hk => (own_lt HA9.out hk).1)
            refine hK.out _ _ ?_ (fun hHeld => ?_)
            · exact H10.out
            clear hK KK h1 h2 h3 h4
            try simp only [Act.put, List.getElem_toArray, List.getElem_cons_succ, List.getElem_cons_zero, List.setIfInBounds_toArray, List.set_cons_zero, List.set_cons_succ]
            refine wpAnyH_ready (rs := [11]) (by kernel_rfl) (by simp) ?_
            refine AllReadyH.cons rfl (fun KK hK => ?_) ?_
            · skip
              clear hHeld
              go_simp
              refine (HBAX.out w10 gz cz H10.out HA10.out).mono ?_
              intro e w11 hbl
              obtain ⟨hb11, pv, ev, rfl, hag⟩ := hbl.again (alw_app HAL.out (by have := HN.out; omega) HALX.out.1 HALX.out.2)
              have H11 : Hid (Below w8.heap.size w8 w11) := H10.out.trans (hb11.mono H10.out.size)
              have HAG : Hid (AgP KN (xs ++ [x]) w11 pv ev) := hag
              clear hbl hb11 hag
              try dsimp only
              refine hK.out _ _ ?_ (fun hHeld => ?_)
              · exact H11.out
              clear hK KK
              try simp only [Act.put, List.getElem_toArray, List.getElem_cons_succ, List.getElem_cons_zero, List.setIfInBounds_toArray, List.set_cons_zero, List.set_cons_succ]
              refine wpAnyH_take (i := 12) (v := ?_) rfl (by kernel_rfl) (by kernel_rfl) (by kernel_rfl) (fun _ _ _ h => h) (Or.inl ⟨by rfl, ?_⟩) (by assumption) ?_
              rotate_left
              · intro w hSw; clear hSw; go_simp; try with_reducible rfl
              try simp only [Act.put, List.getElem_toArray, List.getElem_cons_succ, List.getElem_cons_zero, List.setIfInBounds_toArray, List.set_cons_zero, List.set_cons_succ]
              refine wpAnyH_take (i := 13) (v := ?_) rfl (by kernel_rfl) (by kernel_rfl) (by kernel_rfl) (fun _ _ _ h => h) (Or.inl ⟨by rfl, ?_⟩) (by assumption) ?_
              rotate_left
              · intro w hSw; clear hSw; go_simp; try with_reducible rfl
              try simp only [Act.put, List.getElem_toArray, List.getElem_cons_succ, List.getElem_cons_zero, List.setIfInBounds_toArray, List.set_cons_zero, List.set_cons_succ]
              refine wpAnyH_take (i := 14) (v := ?_) rfl (by kernel_rfl) (by kernel_rfl) (by kernel_rfl) (fun _ _ _ h => h) (Or.inl ⟨by rfl, ?_⟩) (by assumption) ?_
              rotate_left
              · intro w hSw; clear hSw; go_simp; try with_reducible rfl
              try simp only [Act.put, List.getElem_toArray, List.getElem_cons_succ, List.getElem_cons_zero, List.setIfInBounds_toArray, List.set_cons_zero, List.set_cons_succ]
              refine wpAnyH_take (i := 15) (v := ?_) rfl (by kernel_rfl) (by kernel_rfl) (by kernel_rfl) (fun _ _ _ h => h) (Or.inl ⟨by rfl, ?_⟩) (by assumption) ?_
              rotate_left
              · intro w hSw; clear hSw; go_simp; try with_reducible rfl
              try simp only [Act.put, List.getElem_toArray, List.getElem_cons_succ, List.getElem_cons_zero, List.setIfInBounds_toArray, List.set_cons_zero, List.set_cons_succ]
              refine wpAnyH_take (i := 16) (v := ?_) rfl (by kernel_rfl) (by kernel_rfl) (by kernel_rfl) (fun _ _ _ h => h) (Or.inl ⟨by rfl, ?_⟩) (by assumption) ?_
              rotate_left
              · intro w hSw; clear hSw; go_simp; try with_reducible rfl
              try simp only [Act.put, List.getElem_toArray, List.getElem_cons_succ, List.getElem_cons_zero, List.setIfInBounds_toArray, List.set_cons_zero, List.set_cons_succ]
              refine wpAnyH_done (by kernel_rfl) ?_ _
              refine NoPanic.normal ?_
              clear hHeld
              go_wp2_with fail
              go_meet
              exact ⟨pv, ev, rfl, rfl, H11.out, HAG.out⟩
            exact AllReadyH.nil
          exact AllReadyH.nil
        exact AllReadyH.nil
      exact AllReadyH.nil
    exact AllReadyH.nil
  case rest =>
    obtain ⟨pv, ev, hx14, hx15, hbc, hag⟩ := hcut
    subst hx14 hx15
    obtain ⟨w9, hw9⟩ : ∃ W, W = wc := ⟨_, rfl⟩
    rw [← hw9] at hbc hag ⊢
    have HB39 : Hid (Below w3.heap.size w3 w9) := HB38.out.trans (hbc.mono HB38.out.size)
    have HB9 : Hid (Below w.heap.size w w9) := HB8.out.trans (hbc.mono HB8.out.size)
    clear hw9 hbc
    rcases hag with ⟨rfl, rfl⟩ | ⟨lb3, nx3, ou3, rfl, rfl, hma3, hle3⟩
    · go_wp2_with fail
      go_ret
      exact ⟨rfl, HB9.out⟩
    obtain ⟨he1, he2⟩ := least_one (least_again HXQ.out HLE.out.1) hle3
    rw [← he1, ← he2, ← HN.out] at hma3
    obtain ⟨M, hM⟩ : ∃ M, M = nx.length := ⟨_, rfl⟩
    have hlo : ou.length = nx.length := HLE.out.1.len
    have hpos := asMet_pos HLE.out.1.asMet
    have HM9 : Hid (MchAt w9 lb KN nx ou) := HMA.out.later HB39.out
    obtain ⟨oa, oo, oc, o1, o2⟩ := mch_out HM9.out (by omega)
    obtain ⟨na, no, nc, n1, n2⟩ := mch_next HM9.out hpos
    obtain ⟨oa3, oo3, oc3, p1, p2⟩ := mch_out hma3 (by rw [List.length_map]; omega)
    obtain ⟨na3, no3, nc3, r1, r2⟩ := mch_next hma3 hpos
    rw [List.length_map] at p1 p2
    rw [hlo, ← hM] at o1 p1
    rw [← hM] at n1 r1
    have HCELLS : Hid (∀ V : World, Below w9.heap.size w9 V → V.cell? ⟨lb, 2, none⟩ = some (.slice (some ⟨oa, oo, none⟩) M oc) ∧ V.cell? ⟨lb, 1, none⟩ = some (.slice (some ⟨na, no, none⟩) M nc) ∧ V.cell? ⟨lb3, 2, none⟩ = some (.slice (some ⟨oa3, oo3, none⟩) M oc3) ∧ V.cell? ⟨lb3, 1, none⟩ = some (.slice (some ⟨na3, no3, none⟩) M nc3)) := fun V hV => ⟨upC hV o1, upC hV n1, upC hV p1, upC hV r1⟩
    have HAT : Hid (∀ i, i < M → ∃ (Y R : Nat) (ra rb : Option Addr) (rca rcb : Nat) (rw_ : List Int), Y < 2 ^ N ∧ R = KN ∧ (∀ V : World, Below w9.heap.size w9 V → V.cell? ⟨oa, oo + i, none⟩ = some (.int .u64 (Y : Int)) ∧ V.cell? ⟨oa3, oo3 + i, none⟩ = some (.int .u64 ((twB N Y : Nat) : Int)) ∧ V.cell? ⟨na, no + i, none⟩ = some (.slice ra R rca) ∧ V.cell? ⟨na3, no3 + i, none⟩ = some (.slice rb R rcb) ∧ Rd .i64 V ra R rw_ ∧ Rd .i64 V rb R rw_)) := fun i hi => by
      have hi' : i < nx.length := by omega
      obtain ⟨ra, rca, n3, n4⟩ := n2 i hi'
      obtain ⟨rb, rcb, r3, r4⟩ := r2 i hi'
      have hR : nx[i].length = KN := HLE.out.1.wide _ (List.getElem_mem hi')
      have e3 : (ou.map (twB N)).getD i 0 = twB N (ou.getD i 0) := getD_map (twB_zero N) ou i
      have p3 := p2 i (by omega)
      rw [e3] at p3
      refine ⟨ou.getD i 0, nx[i].length, ra, rb, rca, rcb, intsN nx[i], ?_, hR, fun V hV => ⟨upC hV (o2 i (by omega)), upC hV p3, upC hV n3, upC hV r3, n4.later hV, r4.later hV⟩⟩
      rw [List.getD_eq_getElem?_getD, List.getElem?_eq_getElem (by omega), HN.out]
      exact least_small HLE.out.1 _ (List.getElem_mem _)
    have hMi : (M : Int) ≤ 1000000 := by obtain ⟨_, _, _, _, _, _, _, h, _⟩ := HM9.out; rw [hM]; omega
    have hKi : (KN : Int) ≤ 24 := by
      have h := HAL.out
      simp only [alwB, Bool.and_eq_true, decide_eq_true_eq, List.all_eq_true] at h
      exact h.1.1.2
    clear hma3 hle3 he1 he2 hlo hpos hM o1 o2 n1 n2 p1 p2 r1 r2 HM9
    obtain ⟨d1, d2, d3, d4⟩ := HCELLS.out w9 (Below.refl _ _)
    go_wp2_with fail
    go_quiet (fail)
    clear d1 d2 d3 d4
    go_wp2_with fail
    go_loopw [16] (fun x16 wz => ∃ i : Nat, i ≤ M ∧ x16 = .int .i64 (i : Int) ∧ Below w9.heap.size w9 wz) (fun x16 _ => M - (intOf x16).toNat)
    case atStart => exact ⟨0, by omega, rfl, bdN (Below.refl _ _) _⟩
    case round =>
      obtain ⟨i, hi, hx16, hwr⟩ := hrel
      subst hx16
      have HBQ : Hid (Below w9.heap.size w9 wr) := hwr
      clear hwr
      obtain ⟨d1, d2, d3, d4⟩ := HCELLS.out wr HBQ.out
      by_cases hlt : i < M
      · obtain ⟨Y, R, ra, rb, rca, rcb, rw_, hY64, hRK, hat⟩ := HAT.out i hlt
        have HAT2 : Hid (∀ V : World, Below w9.heap.size w9 V → V.cell? ⟨oa, oo + i, none⟩ = some (.int .u64 (Y : Int)) ∧ V.cell? ⟨oa3, oo3 + i, none⟩ = some (.int .u64 ((twB N Y : Nat) : Int)) ∧ V.cell? ⟨na, no + i, none⟩ = some (.slice ra R rca) ∧ V.cell? ⟨na3, no3 + i, none⟩ = some (.slice rb R rcb) ∧ Rd .i64 V ra R rw_ ∧ Rd .i64 V rb R rw_) := hat
        obtain ⟨c1, c2, c3, c4, _⟩ := hat wr HBQ.out
        have hii : (i : Int) < (M : Int) := by omega
        have hi0 : (0 : Int) ≤ (i : Int) := by omega
        have hRi : (R : Int) ≤ 24 := by omega
        obtain ⟨Z, hZ⟩ : ∃ Z, Z = twB N Y := ⟨_, rfl⟩
        obtain ⟨c, hc⟩ : ∃ c, c = Y / 2 ^ q % 2 := ⟨_, rfl⟩
        rw [← hZ] at c2
        have hb1 : bits .and .u64 ((Y : Int) / 2 ^ q) 1 = (c : Int) := by
          rw [show (Y : Int) / 2 ^ q = ((Y / 2 ^ q : Nat) : Int) by simp, and_one64, hc]
        have HTW : Hid (Z = Y ||| c * 2 ^ N ∧ c ≤ 1 ∧ Y < 2 ^ N) := ⟨by rw [hZ, hc]; unfold twB; rw [show N - 1 = q by have := HQ.out; omega], by omega, hY64⟩
        have hNw : IntKind.u64.wrap (N : Int) = (N : Int) := by rw [IntKind.wrap_u64]; omega
        have hNt : ((N : Int)).toNat = N := by omega
        have hmn : min N 64 = N := by omega
        obtain ⟨P, hP⟩ : ∃ P, P = c * 2 ^ N := ⟨_, rfl⟩
        have h256 : 2 ^ N ≤ 256 := Nat.pow_le_pow_right (by decide) (by omega : N ≤ 8)
        have hPle : P ≤ 256 := by
          rw [hP]
          have := HTW.out.2.1
          rcases Nat.eq_zero_or_pos c with h0 | h0
          · rw [h0]; omega
          · rw [show c = 1 by omega]; omega
        have hsh : IntKind.u64.wrap ((c : Int) * 2 ^ N) = (P : Int) := by
          rw [show (c : Int) * 2 ^ N = (P : Int) by rw [hP]; simp, IntKind.wrap_u64]
          omega
        have hor : bits .or .u64 (Y : Int) (P : Int) = (Z : Int) := by
          rw [or_nat64 Y P (by have := HTW.out.2.2; omega) (by omega), HTW.out.1, hP]
        have hne : ((Z : Int) != (Z : Int)) = false := by simp
        clear hat hZ hc hY64 hRK hP h256 hPle
        go_wp2_with fail
        go_quiet (fail)
        clear c1 c2 c3 c4 d1 d2 d3 d4
        go_wp2_with fail
        go_loopw [18] (fun x18 wz => ∃ k : Nat, k ≤ R ∧ x18 = .int .i64 (k : Int) ∧ Below w9.heap.size w9 wz) (fun x18 _ => R - (intOf x18).toNat)
        case atStart => exact ⟨0, by omega, rfl, bdN HBQ.out _⟩
        case round =>
          obtain ⟨k, hk, hx18, hwr⟩ := hrel
          subst hx18
          have HBK : Hid (Below w9.heap.size w9 wr) := hwr
          clear hwr
          obtain ⟨d1, d2, d3, d4⟩ := HCELLS.out wr HBK.out
          obtain ⟨c1, c2, c3, c4, hra, hrb⟩ := HAT2.out wr HBK.out
          by_cases hkR : k < R
          · obtain ⟨b1, f1, rfl, hc1⟩ := hra.2 (by omega)
            obtain ⟨b2, f2, rfl, hc2⟩ := hrb.2 (by omega)
            have e1 := hc1 k hkR
            have e2 := hc2 k hkR
            obtain ⟨t, ht⟩ : ∃ t, t = rw_.getD k 0 := ⟨_, rfl⟩
            rw [← ht] at e1 e2
            have hki : (k : Int) < (R : Int) := by omega
            have hk0 : (0 : Int) ≤ (k : Int) := by omega
            clear hra hrb hc1 hc2 ht
            go_wp2_with fail
            go_quiet (fail)
            clear c1 c2 c3 c4 d1 d2 d3 d4 e1 e2
            go_wp2_with fail
            go_roundw
            case rel => exact ⟨k + 1, by omega, by go_num, bdN HBK.out _⟩
            case measure => simp [intOf]; omega
          · have hki : ¬ (k : Int) < (R : Int) := by omega
            clear hra hrb
            go_wp2_with fail
            go_roundw
            case rel => exact ⟨i + 1, by omega, by go_num, HBK.out⟩
            case measure => simp [intOf]; omega
      · have hii : ¬ (i : Int) < (M : Int) := by omega
        have HBE : Hid (Below w.heap.size w wr) := HB9.out.trans (HBQ.out.mono HB9.out.size)
        go_wp2_with fail
        go_ret
        exact ⟨rfl, HBE.out⟩
end Go.Proofs.YtpmmmgjiekikeaaDoor
