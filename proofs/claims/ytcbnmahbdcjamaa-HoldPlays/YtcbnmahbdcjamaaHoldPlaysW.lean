/- The walk of HoldPlays: a hold answers, and keeps, what the document says. -/
import Derived.Test.YtcbnmahbdcjamaaHoRn
import Derived.Deep.CutRange
import Derived.Deep.RegionHeld3
import Derived.BigQuiet
namespace Go.Proofs.Ytcbnmahbdcjamaa
open Go.RowKit Go.Sort
set_option linter.unusedVariables false
set_option linter.unusedSimpArgs false

set_option maxRecDepth 100000 in
set_option maxHeartbeats 16000000 in
theorem holdPlays_walk (room : Int) (xs : List StpK) (a : Option Addr) (len cap : Nat) (w : World) (lo0 : -9223372036854775808 ≤ room) (hi0 : room ≤ 9223372036854775807) (hrd : RdStp w a len xs) :
    Calls Try.prog 8 #[.int .i64 room, .slice a len cap] w fun e w' => e = .returned (.bool true) ∧ Below w.heap.size w w' := by
  have mixed : Try.prog.follows .mixedOrders = true := by kernel_rfl
  have HX : Hid (∀ w', Below w.heap.size w w' → RdStp w' a len xs) := fun w' h => hrd.later h
  obtain ⟨r, hr⟩ : ∃ r, r = room.toNat := ⟨_, rfl⟩
  have hr1 : (r : Int) ≤ 9223372036854775807 := by omega
  have HSH : Hid (Calls Try.prog 35 #[] w fun e w' => e = .returned (.bool true) ∧ Below w.heap.size w w') := shown16_any w
  have HNW : Hid (∀ w1, Below w.heap.size w w1 → Calls Try.prog 36 #[.int .i64 room] w1 fun e w' => ∃ P, e = .returned (.pointer (some ⟨P, 0, none⟩)) ∧ HoO w w' P r [] nbK) := fun w1 hb => (h_new hb room hi0 nbK (fun k h => h.elim)).mono (by
    rintro e w' ⟨P, rfl, q, _⟩
    exact ⟨P, rfl, by rw [hr]; exact q⟩)
  have HRN : Hid (∀ w1 P, HoO w w1 P r [] nbK → Calls Try.prog 37 #[.int .i64 room] w1 fun e w' => ∃ T, e = .returned (.pointer (some ⟨T, 0, none⟩)) ∧ HpS w w' P r T [] [] nbK) := fun w1 P h => (rf_new room w1).mono (by
    rintro e w' ⟨rfl, q1, q2⟩
    rw [← hr] at q1
    exact ⟨_, rfl, hp_new h q1 q2⟩)
  clear hrd hr lo0 hi0
  go_enter Try.func8, Try.ntmps8
  go_upto_region 7 with (first
    | (go_at_call 35; refine HSH.out.mono ?_; rintro e w1 ⟨rfl, hb⟩; have HB1 : Hid (Below w.heap.size w w1) := hb; clear hb)
    | (go_at_call 36; refine (HNW.out _ HB1.out).mono ?_; rintro e w2 ⟨P, rfl, hs⟩; have HS2 : Hid (HoO w w2 P r [] nbK) := hs; clear hs)
    | (go_at_call 37; refine (HRN.out _ _ HS2.out).mono ?_; rintro e w3 ⟨T, rfl, hs⟩; have HS3 : Hid (HpS w w3 P r T [] [] nbK) := hs; clear hs))
  clear HSH HNW HRN HB1 HS2
  go_loopw [8] (fun x8 wr => ∃ (i : Nat) (l M : List Opn), x8 = .int .i64 (i : Int) ∧ i ≤ 100 ∧ l.Perm M ∧ l.length ≤ i ∧ HpS w wr P r T l M nbK) (fun x8 _ => 100 - (RowKit.intOf x8).toNat)
  case atStart => exact ⟨0, [], [], rfl, by omega, List.Perm.refl _, by simp, HS3.out⟩
  case round =>
    clear HS3
    obtain ⟨i, l, M, h8, hi100, hpl, hll, hs⟩ := hrel
    subst h8
    have HT : Hid (HpS w wr P r T l M nbK) := hs
    have HPL : Hid (l.Perm M) := hpl
    obtain ⟨z, hz⟩ : ∃ z, z = (decide (i < len) && decide (i < 100)) := ⟨_, rfl⟩
    have HZ : Hid (z = (decide (i < len) && decide (i < 100))) := hz
    clear hs hz hpl
    go_upto_region 7 with fail
    go_cut [33] from 26 to 169 (fun x33 wx => x33 = .bool z ∧ wx = wr)
    case first =>
      by_cases h1 : i < len
      · have d1 : decide ((i : Int) < (len : Int)) = true := decide_eq_true (by omega)
        by_cases h2 : i < 100
        · have d2 : decide ((i : Int) < 100) = true := decide_eq_true (by omega)
          have hz2 : z = true := by rw [HZ.out, decide_eq_true h1, decide_eq_true h2]; rfl
          subst hz2
          clear HZ
          go_wp2
          go_meet
          case rel => exact ⟨rfl, rfl⟩
        · have d2 : decide ((i : Int) < 100) = false := decide_eq_false (by omega)
          have hz2 : z = false := by rw [HZ.out, decide_eq_true h1, decide_eq_false h2]; rfl
          subst hz2
          clear HZ
          go_wp2
          go_meet
          case rel => exact ⟨rfl, rfl⟩
      · have d1 : decide ((i : Int) < (len : Int)) = false := decide_eq_false (by omega)
        have hz2 : z = false := by rw [HZ.out, decide_eq_false h1]; rfl
        subst hz2
        clear HZ
        go_wp2
        go_meet
        case rel => exact ⟨rfl, rfl⟩
    case rest =>
      obtain ⟨rfl, hwc⟩ := hcut
      subst hwc
      cases z
      · clear HZ HX
        obtain ⟨l2, hl2⟩ : ∃ l2, l2 = l := ⟨_, rfl⟩
        obtain ⟨M2, hM2⟩ : ∃ M2, M2 = M := ⟨_, rfl⟩
        have HPM : Hid (l2.Perm M2) := (show l2.Perm M2 by rw [hl2, hM2]; exact HPL.out)
        have HLL : Hid (l2.length ≤ i ∧ i ≤ 100) := (show l2.length ≤ i ∧ i ≤ 100 by rw [hl2]; omega)
        rw [← hl2, ← hM2] at HT
        have HT2 : Hid (HpS w wc P r T l2 M2 nbK) := HT.out
        clear hl2 hM2 HT HPL
        obtain ⟨m, hm⟩ : ∃ m, m = l2.length := ⟨_, rfl⟩
        have HALL : Hid (∀ W, HpS w W P r T l2 M2 nbK → Calls Try.prog 48 #[.pointer (some ⟨P, 0, none⟩)] W fun e w' => ∃ a c, e = .returned (.slice a m c) ∧ RdP w' a m l2 ∧ RowW w' a m ∧ HpS w w' P r T l2 M2 (fun k => (Value.slice a m c).ownBlock = some k)) := fun W h => (hp_all h).mono fun e w' q => by
          obtain ⟨a, c, rfl, q1, q2⟩ := q
          rw [← hm] at q1
          obtain ⟨a9, c9, e9, _, _, r9, _⟩ := rdP_own q1
          cases e9
          exact ⟨a, c, by rw [hm], r9, rowW_own q1, h.more q2 (fun k hk => .inr (q1.lt k hk))⟩
        have HRALL : Hid (∀ W bs, HpS w W P r T l2 M2 bs → Calls Try.prog 50 #[.pointer (some ⟨T, 0, none⟩)] W fun e w' => ∃ a c, e = .returned (.slice a m c) ∧ RdP w' a m l2 ∧ Below W.heap.size W w') := fun W bs h => (hp_rall h HPM.out (by have := HPM.out.length_eq; have := HLL.out; omega)).mono fun e w' q => by
          obtain ⟨a, c, rfl, q1, q2⟩ := q
          rw [← hm] at q1
          exact ⟨a, c, by rw [hm], q1, q2⟩
        have HSAME : Hid (∀ W (a b : Option Addr) (c d : Nat), RdP W a m l2 → RdP W b m l2 → Calls Try.prog 49 #[.slice a m c, .slice b m d] W fun e w' => e = .returned (.bool true) ∧ Below W.heap.size W w') := fun W a b c d h1 h2 => sameK_any l2 l2 a b m m c d W h1 h2 (by have := HLL.out; omega) true (by simp)
        have hm1 : m ≤ 1000 := by have := HLL.out; omega
        have HML : Hid (m = l2.length) := hm
        clear hm
        go_wp2_with (first
          | (go_at_call 48; refine (HALL.out _ HT2.out).mono ?_; rintro e w8 ⟨a8, c8, rfl, g1, g2, g3⟩; have HR8 : Hid (RdP w8 a8 m l2) := g1; have HW8 : Hid (RowW w8 a8 m) := g2; have HT8 : Hid (HpS w w8 P r T l2 M2 (fun k => (Value.slice a8 m c8).ownBlock = some k)) := g3; clear g1 g2 g3)
          | (go_at_call 50; refine (HRALL.out _ _ HT8.out).mono ?_; rintro e w9 ⟨a9, c9, rfl, g1, g2⟩; have HR9 : Hid (RdP w9 a9 m l2) := g1; have HQ8 : Hid (RdP w9 a8 m l2) := HR8.out.later g2; have HW9 : Hid (RowW w9 a8 m) := HW8.out.later g2; have HT9 : Hid (HpS w w9 P r T l2 M2 (fun k => (Value.slice a8 m c8).ownBlock = some k)) := HT8.out.later g2; clear g1 g2)
          | (go_at_call 49; refine (HSAME.out _ _ _ _ _ HQ8.out HR9.out).mono ?_; rintro e w10 ⟨rfl, g1⟩; have HW10 : Hid (RowW w10 a8 m) := HW9.out.later g1; have HT10 : Hid (HpS w w10 P r T l2 M2 (fun k => (Value.slice a8 m c8).ownBlock = some k)) := HT9.out.later g1; clear g1))
        go_ret
        exact ⟨rfl, HT10.out.below⟩
      · have hmi : i < len ∧ i < 100 := by
          have := HZ.out
          simpa using this.symm
        obtain ⟨h1, h2⟩ := hmi
        have HLI : Hid (i < len) := h1
        obtain ⟨b, off, rfl, c0, c1, c2, c3, c4, c5, c6, c7, c8⟩ := (HX.out wc HT.out.below).at i h1
        have hcl : ∀ V, Below w.heap.size w V → V.cell? ⟨b, off + i * 9, none⟩ = some (.int .i64 (xs.getD i stp0).1) ∧ V.cell? ⟨b, off + i * 9 + 1, none⟩ = some (.int .i64 (xs.getD i stp0).2.1) ∧ V.cell? ⟨b, off + i * 9 + 2, none⟩ = some (.int .i64 (xs.getD i stp0).2.2.c) ∧ V.cell? ⟨b, off + i * 9 + 2 + 1, none⟩ = some (.int .i64 (xs.getD i stp0).2.2.a) ∧ V.cell? ⟨b, off + i * 9 + 2 + 2, none⟩ = some (.int .i64 (xs.getD i stp0).2.2.s) ∧ V.cell? ⟨b, off + i * 9 + 2 + 3, none⟩ = some (.bool (xs.getD i stp0).2.2.ins) ∧ V.cell? ⟨b, off + i * 9 + 2 + 4, none⟩ = some (.int .i64 (xs.getD i stp0).2.2.rc) ∧ V.cell? ⟨b, off + i * 9 + 2 + 5, none⟩ = some (.int .i64 (xs.getD i stp0).2.2.ra) ∧ V.cell? ⟨b, off + i * 9 + 2 + 6, none⟩ = some (.int .i32 (xs.getD i stp0).2.2.ch) := fun V hV => by
          obtain ⟨b1, o1, e1, cc⟩ := (HX.out V hV).at i h1
          cases e1
          exact cc
        clear c0 c1 c2 c3 c4 c5 c6 c7 c8 HZ HX
        obtain ⟨S, hS⟩ : ∃ S, S = xs.getD i stp0 := ⟨_, rfl⟩
        rw [← hS] at hcl
        clear hS
        obtain ⟨kd, n, o⟩ := S
        simp only at hcl
        obtain ⟨c0, c1, _⟩ := hcl wc HT.out.below
        have HC7 : Hid (∀ V, Below w.heap.size w V → V.cell? ⟨b, off + i * 9 + 2, none⟩ = some (.int .i64 o.c) ∧ V.cell? ⟨b, off + i * 9 + 2 + 1, none⟩ = some (.int .i64 o.a) ∧ V.cell? ⟨b, off + i * 9 + 2 + 2, none⟩ = some (.int .i64 o.s) ∧ V.cell? ⟨b, off + i * 9 + 2 + 3, none⟩ = some (.bool o.ins) ∧ V.cell? ⟨b, off + i * 9 + 2 + 4, none⟩ = some (.int .i64 o.rc) ∧ V.cell? ⟨b, off + i * 9 + 2 + 5, none⟩ = some (.int .i64 o.ra) ∧ V.cell? ⟨b, off + i * 9 + 2 + 6, none⟩ = some (.int .i32 o.ch)) := fun V hV => (hcl V hV).2.2
        have HC0 : Hid (∀ V, Below w.heap.size w V → V.cell? ⟨b, off + i * 9, none⟩ = some (.int .i64 kd)) := fun V hV => (hcl V hV).1
        have hi0 : (0 : Int) ≤ (i : Int) := by omega
        have hi1 : (i : Int) < (len : Int) := by omega
        obtain ⟨W1, hW1⟩ : ∃ W1, W1 = wc.alloc (bxI n) := ⟨_, rfl⟩
        obtain ⟨N, hN⟩ : ∃ N, N = wc.heap.size := ⟨_, rfl⟩
        have hb1 : Below wc.heap.size wc W1 := by rw [hW1]; exact (Below.refl _ wc).alloc (Nat.le_refl _) _
        have hn1 : W1.heap[N]? = some (bxI n) := by rw [hW1, hN]; exact heap_alloc_new wc _
        have HTN : Hid (HpS w W1 P r T l M (fun k => k = N)) := HT.out.more hb1 (fun k hk => by subst hk; exact .inr ⟨by omega, (Array.getElem?_eq_some_iff.1 hn1).1⟩)
        have HNB : Hid (W1.heap[N]? = some (bxI n)) := hn1
        have HCN : Hid (∀ V : World, V.heap[N]? = some (bxI n) → V.cell? ⟨N, 0, none⟩ = some (.int .i64 n)) := fun V hV => cell_of_row V N 0 _ _ _ hV
        have c0b := HC0.out W1 HTN.out.below
        obtain ⟨ER, hER⟩ : ∃ ER, addE l r o = ER := ⟨_, rfl⟩
        have HER : Hid (addE l r o = ER) := hER
        clear hcl HT HC0 hb1 hn1 hER
        go_upto_region 10 with fail
        rw [← hN, ← hW1]
        clear hN hW1 c0 c1
        have c0 := c0b
        clear c0b
        by_cases k1 : kd = 1
        · subst k1
          go_upto_region 14 with fail
          clear c0
          obtain ⟨X, zz, l2, M2, hp2, hl2, hd1, hd2⟩ := ready_pair (w := w) (P := P) (r := r) (T := T) HPL.out (by omega) HTN.out.asc n N
          have HRD : Hid (Calls Try.prog 39 #[.pointer (some ⟨P, 0, none⟩), .func (.func 38) #[] #[.pointer (some ⟨N, 0, none⟩)]] W1 fun e w' => e = .returned (.tuple #[.agg #[.int .i64 X.c, .int .i64 X.a, .int .i64 X.s, .bool X.ins, .int .i64 X.rc, .int .i64 X.ra, .int .i32 X.ch], .bool zz]) ∧ HpS w w' P r T l2 M (fun k => k = N) ∧ w'.heap[N]? = some (bxI n)) := hd1 _ HTN.out HNB.out
          have HRRD : Hid (∀ W bs, HpS w W P r T l2 M bs → Calls Try.prog 40 #[.pointer (some ⟨T, 0, none⟩), .int .i64 n] W fun e w' => e = .returned (.tuple #[.agg #[.int .i64 X.c, .int .i64 X.a, .int .i64 X.s, .bool X.ins, .int .i64 X.rc, .int .i64 X.ra, .int .i32 X.ch], .bool zz]) ∧ HpS w w' P r T l2 M2 bs ∧ ∀ k, bs k → w'.heap[k]? = W.heap[k]?) := hd2
          have HPM : Hid (l2.Perm M2) := hp2
          have HLL : Hid (l2.length ≤ i + 1 ∧ i < 100) := (show l2.length ≤ i + 1 ∧ i < 100 by omega)
          clear hd1 hd2 hl2 hp2
          go_upto_region 16 with (go_at_call 39; refine HRD.out.mono ?_; rintro e w5 ⟨rfl, g1, g2⟩; have HS5 : Hid (HpS w w5 P r T l2 M (fun k => k = N)) := g1; have HN5 : Hid (w5.heap[N]? = some (bxI n)) := g2; clear g1 g2)
          obtain ⟨W5, hW5⟩ : ∃ W5, W5 = w5.alloc (.cells #[.int .i64 X.c, .int .i64 X.a, .int .i64 X.s, .bool X.ins, .int .i64 X.rc, .int .i64 X.ra, .int .i32 X.ch] 34) := ⟨_, rfl⟩
          obtain ⟨X1, hX1⟩ : ∃ X1, X1 = w5.heap.size := ⟨_, rfl⟩
          have hb5 : Below w5.heap.size w5 W5 := by rw [hW5]; exact (Below.refl _ w5).alloc (Nat.le_refl _) _
          have hx5 : W5.heap[X1]? = some (bxP X) := by rw [hW5, hX1]; exact heap_alloc_new w5 _
          have hn5 : W5.heap[N]? = some (bxI n) := bel_heap hb5 HN5.out
          have HS5b : Hid (HpS w W5 P r T l2 M (fun k => k = N ∨ k = X1)) := HS5.out.more hb5 (fun k hk => by
            rcases hk with hk | hk
            · exact .inl hk
            · subst hk; exact .inr ⟨by omega, (Array.getElem?_eq_some_iff.1 hx5).1⟩)
          have HX5 : Hid (W5.heap[X1]? = some (bxP X)) := hx5
          rw [← hX1, ← hW5]
          have c9 : W5.cell? ⟨N, 0, none⟩ = some (.int .i64 n) := cell_of_row W5 N 0 _ _ _ hn5
          clear hX1 hW5 hb5 hx5 hn5 HS5 HN5
          go_upto_region 17 with (go_at_call 40; refine (HRRD.out _ _ HS5b.out).mono ?_; rintro e w6 ⟨rfl, g1, g2⟩; have HS6 : Hid (HpS w w6 P r T l2 M2 (fun k => k = N ∨ k = X1)) := g1; have HX6 : Hid (w6.heap[X1]? = some (bxP X)) := (g2 X1 (.inr rfl)).trans HX5.out; clear g1 g2)
          obtain ⟨W7, hW7⟩ : ∃ W7, W7 = w6.alloc (.cells #[.int .i64 X.c, .int .i64 X.a, .int .i64 X.s, .bool X.ins, .int .i64 X.rc, .int .i64 X.ra, .int .i32 X.ch] 34) := ⟨_, rfl⟩
          obtain ⟨X2, hX2⟩ : ∃ X2, X2 = w6.heap.size := ⟨_, rfl⟩
          have hb7 : Below w6.heap.size w6 W7 := by rw [hW7]; exact (Below.refl _ w6).alloc (Nat.le_refl _) _
          have hx7 : W7.heap[X2]? = some (bxP X) := by rw [hW7, hX2]; exact heap_alloc_new w6 _
          obtain ⟨p0, p1, p2, p3, p4, p5, p6⟩ := opAt_box (bel_heap hb7 HX6.out)
          obtain ⟨q0, q1, q2, q3, q4, q5, q6⟩ := opAt_box hx7
          have HT2 : Hid (HpS w W7 P r T l2 M2 nbK) := HS6.out.more hb7 (fun k hk => hk.elim)
          have hne := neq_opK X X false (by simp)
          rw [← hX2, ← hW7]
          clear hX2 hW7 hb7 hx7 c9 HS5b HX5 HS6 HX6 HRD HRRD HTN HC7 HNB HER HPL HLI
          go_upto_region 26 with fail
          clear p0 p1 p2 p3 p4 p5 p6 q0 q1 q2 q3 q4 q5 q6 hne
          obtain ⟨m, hm⟩ : ∃ m, m = l2.length := ⟨_, rfl⟩
          have HALL : Hid (∀ W, HpS w W P r T l2 M2 nbK → Calls Try.prog 48 #[.pointer (some ⟨P, 0, none⟩)] W fun e w' => ∃ a c, e = .returned (.slice a m c) ∧ RdP w' a m l2 ∧ RowW w' a m ∧ HpS w w' P r T l2 M2 (fun k => (Value.slice a m c).ownBlock = some k)) := fun W h => (hp_all h).mono fun e w' q => by
            obtain ⟨a, c, rfl, q1, q2⟩ := q
            rw [← hm] at q1
            obtain ⟨a9, c9, e9, _, _, r9, _⟩ := rdP_own q1
            cases e9
            exact ⟨a, c, by rw [hm], r9, rowW_own q1, h.more q2 (fun k hk => .inr (q1.lt k hk))⟩
          have HRALL : Hid (∀ W bs, HpS w W P r T l2 M2 bs → Calls Try.prog 50 #[.pointer (some ⟨T, 0, none⟩)] W fun e w' => ∃ a c, e = .returned (.slice a m c) ∧ RdP w' a m l2 ∧ Below W.heap.size W w') := fun W bs h => (hp_rall h HPM.out (by have := HPM.out.length_eq; have := HLL.out; omega)).mono fun e w' q => by
            obtain ⟨a, c, rfl, q1, q2⟩ := q
            rw [← hm] at q1
            exact ⟨a, c, by rw [hm], q1, q2⟩
          have HSAME : Hid (∀ W (a b : Option Addr) (c d : Nat), RdP W a m l2 → RdP W b m l2 → Calls Try.prog 49 #[.slice a m c, .slice b m d] W fun e w' => e = .returned (.bool true) ∧ Below W.heap.size W w') := fun W a b c d h1 h2 => sameK_any l2 l2 a b m m c d W h1 h2 (by have := HLL.out; omega) true (by simp)
          have hm1 : m ≤ 1000 := by have := HLL.out; omega
          have HML : Hid (m = l2.length) := hm
          clear hm
          go_upto_region 29 with (first
            | (go_at_call 48; refine (HALL.out _ HT2.out).mono ?_; rintro e w8 ⟨a8, c8, rfl, g1, g2, g3⟩; have HR8 : Hid (RdP w8 a8 m l2) := g1; have HW8 : Hid (RowW w8 a8 m) := g2; have HT8 : Hid (HpS w w8 P r T l2 M2 (fun k => (Value.slice a8 m c8).ownBlock = some k)) := g3; clear g1 g2 g3)
            | (go_at_call 50; refine (HRALL.out _ _ HT8.out).mono ?_; rintro e w9 ⟨a9, c9, rfl, g1, g2⟩; have HR9 : Hid (RdP w9 a9 m l2) := g1; have HQ8 : Hid (RdP w9 a8 m l2) := HR8.out.later g2; have HW9 : Hid (RowW w9 a8 m) := HW8.out.later g2; have HT9 : Hid (HpS w w9 P r T l2 M2 (fun k => (Value.slice a8 m c8).ownBlock = some k)) := HT8.out.later g2; clear g1 g2)
            | (go_at_call 49; refine (HSAME.out _ _ _ _ _ HQ8.out HR9.out).mono ?_; rintro e w10 ⟨rfl, g1⟩; have HW10 : Hid (RowW w10 a8 m) := HW9.out.later g1; have HT10 : Hid (HpS w w10 P r T l2 M2 (fun k => (Value.slice a8 m c8).ownBlock = some k)) := HT9.out.later g1; clear g1))
          clear HALL HRALL HSAME HT2 HR8 HW8 HT8 HR9 HQ8 HW9 HT9
          go_loopw [18] (fun x18 wr => ∃ k : Nat, x18 = .int .i64 (k : Int) ∧ k ≤ m ∧ RowW wr a8 m ∧ HpS w wr P r T l2 M2 (fun k => (Value.slice a8 m c8).ownBlock = some k)) (fun x18 _ => m - (RowKit.intOf x18).toNat)
          case atStart => exact ⟨0, rfl, by omega, HW10.out, HT10.out⟩
          case round =>
            clear HW10 HT10
            obtain ⟨k, h18, hkm, hw, hs⟩ := hrel
            subst h18
            have HSX : Hid (HpS w wr P r T l2 M2 (fun k => (Value.slice a8 m c8).ownBlock = some k)) := hs
            clear hs
            by_cases hlt : k < m
            · obtain ⟨g, cur, rfl, hg, hsz⟩ := hw (by omega)
              obtain ⟨⟨u, hu⟩, hz, hrw⟩ := rowW_at hg hsz hlt
              have HNX : Hid (RowW (wr.setCell ⟨g, k * 7 + 2, none⟩ (.int .i64 (-7))) (some ⟨g, 0, none⟩) m ∧ HpS w (wr.setCell ⟨g, k * 7 + 2, none⟩ (.int .i64 (-7))) P r T l2 M2 (fun k => (Value.slice (some ⟨g, 0, none⟩) m c8).ownBlock = some k)) := ⟨hrw _, HSX.out.chg (cg_set wr g (k * 7 + 2) (.int .i64 (-7))) (fun k q => by subst q; rfl)⟩
              have hk0 : (0 : Int) ≤ (k : Int) := by omega
              have hk1 : (k : Int) < (m : Int) := by omega
              clear hg hsz hrw HSX hw
              go_wp2
              go_roundw
              case rel => first | exact ⟨k + 1, by go_num, by omega, HNX.out.1, HNX.out.2⟩ | ((repeat apply Exists.intro); exact ⟨⟨k + 1, by go_num, by omega, HNX.out.1, HNX.out.2⟩, rfl⟩)
              case measure => simp [RowKit.intOf]; omega
            · obtain rfl : m = k := by omega
              have HS9 : Hid (HpS w wr P r T l2 M2 nbK) := HSX.out.more (Below.refl _ _) (fun k hk => hk.elim)
              obtain ⟨at_, ct_, t0, t1⟩ := hp_cells HS9.out
              rw [← HPM.out.length_eq, ← HML.out] at t1
              have HLQ : Hid (∀ q, Calls Try.prog 51 #[.pointer (some ⟨P, 0, none⟩)] (wr.drewN q) fun e w' => e = .returned (.int .i64 (m : Int)) ∧ w' = wr.drewN q) := fun q => by rw [HML.out]; exact hp_len (HS9.out.later (bel_drewK (Below.refl _ wr) q))
              have HRQ : Hid (∀ q, Calls Try.prog 52 #[.pointer (some ⟨P, 0, none⟩)] (wr.drewN q) fun e w' => e = .returned (.int .i64 ((r : Int) - (m : Int))) ∧ ∃ q', w' = (wr.drewN q).drewN q') := fun q => by
                rw [HML.out]
                exact (hp_room (HS9.out.later (bel_drewK (Below.refl _ wr) q))).mono fun e w' hh => ⟨hh.1, 1, by rw [hh.2]; rfl⟩
              have HNX : Hid (∀ q, HpS w (wr.drewN q) P r T l2 M2 nbK) := fun q => HS9.out.later (bel_drewK (Below.refl _ wr) q)
              have hrm : IntKind.i64.wrap ((r : Int) - (m : Int)) = (r : Int) - (m : Int) := by rw [IntKind.wrap_i64]; omega
              clear HSX hw HS9
              go_upto_region 32 with fail
              go_quiet (first | (go_at_call 51; with_reducible exact Calls.quiet_of_same (HLQ.out _)) | (go_at_call 52; with_reducible exact Calls.quiet_of (HRQ.out _)))
              go_wp2
              go_roundw
              case rel => first | exact ⟨i + 1, l2, M2, by go_num, by omega, HPM.out, HLL.out.1, HNX.out _⟩ | ((repeat apply Exists.intro); exact ⟨⟨i + 1, l2, M2, by go_num, by omega, HPM.out, HLL.out.1, HNX.out _⟩, rfl⟩)
              case measure => simp [RowKit.intOf]; omega
        · have e1 : (kd == 1) = false := by simpa using k1
          by_cases k2 : kd = 2
          · subst k2
            go_upto_region 20 with fail
            clear c0
            obtain ⟨cc, l2, hl2, hd1, hd2⟩ := drop_pair (w := w) (P := P) (r := r) (T := T) HPL.out (by omega) HTN.out.asc n N
            have HDR : Hid (Calls Try.prog 42 #[.pointer (some ⟨P, 0, none⟩), .func (.func 41) #[] #[.pointer (some ⟨N, 0, none⟩)]] W1.drew fun e w' => e = .returned (.int .i64 cc) ∧ HpS w w' P r T l2 M (fun k => k = N) ∧ w'.heap[N]? = some (bxI n)) := hd1 _ (HTN.out.later (Below.refl _ W1).drew) HNB.out
            have HRDR : Hid (∀ W, HpS w W P r T l2 M (fun k => k = N) → W.heap[N]? = some (bxI n) → Calls Try.prog 43 #[.pointer (some ⟨T, 0, none⟩), .int .i64 n] W fun e w' => e = .returned (.int .i64 cc) ∧ ∃ M2, l2.Perm M2 ∧ HpS w w' P r T l2 M2 (fun k => k = N) ∧ w'.heap[N]? = some (bxI n)) := hd2
            have HLL : Hid (l2.length ≤ i + 1 ∧ i < 100) := (show l2.length ≤ i + 1 ∧ i < 100 by omega)
            clear hd1 hd2 hl2
            go_upto_region 21 with fail
            refine wp_region_noPanic ?_
            refine wp_region_held_drew (S := (fun w' => w'.cell? ⟨N, 0, none⟩ = some (.int .i64 n))) (by kernel_rfl) (HCN.out _ HNB.out) (fun hHeld => ?_)
            refine wpAnyH_take (i := 0) (v := ?_) rfl (by kernel_rfl) (by kernel_rfl) (by kernel_rfl) (fun _ _ _ h => h) (Or.inl ⟨by rfl, ?_⟩) (by assumption) ?_
            rotate_left
            · intro W' hSw; obtain s0 := hSw; go_simp; try with_reducible rfl
            try simp only [Act.put, List.getElem_toArray, List.getElem_cons_succ, List.getElem_cons_zero, List.setIfInBounds_toArray, List.set_cons_zero, List.set_cons_succ]
            refine wpAnyH_take (i := 1) (v := ?_) rfl (by kernel_rfl) (by kernel_rfl) (by kernel_rfl) (fun _ _ _ h => h) (Or.inl ⟨by rfl, ?_⟩) (by assumption) ?_
            rotate_left
            · intro W' hSw; obtain s0 := hSw; go_simp; try with_reducible rfl
            try simp only [Act.put, List.getElem_toArray, List.getElem_cons_succ, List.getElem_cons_zero, List.setIfInBounds_toArray, List.set_cons_zero, List.set_cons_succ]
            refine wpAnyH_take (i := 3) (v := ?_) rfl (by kernel_rfl) (by kernel_rfl) (by kernel_rfl) (fun _ _ _ h => h) (Or.inl ⟨by rfl, ?_⟩) (by assumption) ?_
            rotate_left
            · intro W' hSw; obtain s0 := hSw; go_simp; try with_reducible rfl
            try simp only [Act.put, List.getElem_toArray, List.getElem_cons_succ, List.getElem_cons_zero, List.setIfInBounds_toArray, List.set_cons_zero, List.set_cons_succ]
            refine wpAnyH_take (i := 4) (v := ?_) rfl (by kernel_rfl) (by kernel_rfl) (by kernel_rfl) (fun _ _ _ h => h) (Or.inl ⟨by rfl, ?_⟩) (by assumption) ?_
            rotate_left
            · intro W' hSw; obtain s0 := hSw; go_simp; try with_reducible rfl
            try simp only [Act.put, List.getElem_toArray, List.getElem_cons_succ, List.getElem_cons_zero, List.setIfInBounds_toArray, List.set_cons_zero, List.set_cons_succ]
            refine wpAnyH_ready (rs := [2]) (by kernel_rfl) (by simp) ?_
            refine AllReadyH.cons rfl (fun KK hK => ?_) AllReadyH.nil
            go_simp
            refine HDR.out.mono ?_
            rintro e w5 ⟨rfl, g1, g2⟩
            have HS5 : Hid (HpS w w5 P r T l2 M (fun k => k = N)) := g1
            have HN5 : Hid (w5.heap[N]? = some (bxI n)) := g2
            clear g1 g2
            refine hK.out _ _ (HCN.out _ HN5.out) (fun hHeld => ?_)
            clear hK KK
            try simp only [Act.put, List.getElem_toArray, List.getElem_cons_succ, List.getElem_cons_zero, List.setIfInBounds_toArray, List.set_cons_zero, List.set_cons_succ]
            refine wpAnyH_ready (rs := [5]) (by kernel_rfl) (by simp) ?_
            refine AllReadyH.cons rfl (fun KK hK => ?_) AllReadyH.nil
            go_simp
            refine (HRDR.out _ HS5.out HN5.out).mono ?_
            rintro e w6 ⟨rfl, M2, g0, g1, g2⟩
            have HPM : Hid (l2.Perm M2) := g0
            have HS6 : Hid (HpS w w6 P r T l2 M2 (fun k => k = N)) := g1
            have HN6 : Hid (w6.heap[N]? = some (bxI n)) := g2
            clear g0 g1 g2
            refine hK.out _ _ (HCN.out _ HN6.out) (fun hHeld => ?_)
            clear hK KK
            try simp only [Act.put, List.getElem_toArray, List.getElem_cons_succ, List.getElem_cons_zero, List.setIfInBounds_toArray, List.set_cons_zero, List.set_cons_succ]
            refine wpAnyH_take (i := 6) (v := ?_) rfl (by kernel_rfl) (by kernel_rfl) (by kernel_rfl) (fun _ _ _ h => h) (Or.inl ⟨by rfl, ?_⟩) (by assumption) ?_
            rotate_left
            · intro W' hSw; obtain s0 := hSw; go_simp; try with_reducible rfl
            try simp only [Act.put, List.getElem_toArray, List.getElem_cons_succ, List.getElem_cons_zero, List.setIfInBounds_toArray, List.set_cons_zero, List.set_cons_succ]
            refine wpAnyH_done (by kernel_rfl) ?_ _
            refine NoPanic.normal ?_
            clear hHeld
            have HT2 : Hid (HpS w w6 P r T l2 M2 nbK) := HS6.out.more (Below.refl _ _) (fun k hk => hk.elim)
            clear HDR HRDR HS5 HN5 HS6 HN6 HTN HC7 HNB HER HPL HLI
            obtain ⟨m, hm⟩ : ∃ m, m = l2.length := ⟨_, rfl⟩
            have HALL : Hid (∀ W, HpS w W P r T l2 M2 nbK → Calls Try.prog 48 #[.pointer (some ⟨P, 0, none⟩)] W fun e w' => ∃ a c, e = .returned (.slice a m c) ∧ RdP w' a m l2 ∧ RowW w' a m ∧ HpS w w' P r T l2 M2 (fun k => (Value.slice a m c).ownBlock = some k)) := fun W h => (hp_all h).mono fun e w' q => by
              obtain ⟨a, c, rfl, q1, q2⟩ := q
              rw [← hm] at q1
              obtain ⟨a9, c9, e9, _, _, r9, _⟩ := rdP_own q1
              cases e9
              exact ⟨a, c, by rw [hm], r9, rowW_own q1, h.more q2 (fun k hk => .inr (q1.lt k hk))⟩
            have HRALL : Hid (∀ W bs, HpS w W P r T l2 M2 bs → Calls Try.prog 50 #[.pointer (some ⟨T, 0, none⟩)] W fun e w' => ∃ a c, e = .returned (.slice a m c) ∧ RdP w' a m l2 ∧ Below W.heap.size W w') := fun W bs h => (hp_rall h HPM.out (by have := HPM.out.length_eq; have := HLL.out; omega)).mono fun e w' q => by
              obtain ⟨a, c, rfl, q1, q2⟩ := q
              rw [← hm] at q1
              exact ⟨a, c, by rw [hm], q1, q2⟩
            have HSAME : Hid (∀ W (a b : Option Addr) (c d : Nat), RdP W a m l2 → RdP W b m l2 → Calls Try.prog 49 #[.slice a m c, .slice b m d] W fun e w' => e = .returned (.bool true) ∧ Below W.heap.size W w') := fun W a b c d h1 h2 => sameK_any l2 l2 a b m m c d W h1 h2 (by have := HLL.out; omega) true (by simp)
            have hm1 : m ≤ 1000 := by have := HLL.out; omega
            have HML : Hid (m = l2.length) := hm
            clear hm
            go_upto_region 29 with (first
              | (go_at_call 48; refine (HALL.out _ HT2.out).mono ?_; rintro e w8 ⟨a8, c8, rfl, g1, g2, g3⟩; have HR8 : Hid (RdP w8 a8 m l2) := g1; have HW8 : Hid (RowW w8 a8 m) := g2; have HT8 : Hid (HpS w w8 P r T l2 M2 (fun k => (Value.slice a8 m c8).ownBlock = some k)) := g3; clear g1 g2 g3)
              | (go_at_call 50; refine (HRALL.out _ _ HT8.out).mono ?_; rintro e w9 ⟨a9, c9, rfl, g1, g2⟩; have HR9 : Hid (RdP w9 a9 m l2) := g1; have HQ8 : Hid (RdP w9 a8 m l2) := HR8.out.later g2; have HW9 : Hid (RowW w9 a8 m) := HW8.out.later g2; have HT9 : Hid (HpS w w9 P r T l2 M2 (fun k => (Value.slice a8 m c8).ownBlock = some k)) := HT8.out.later g2; clear g1 g2)
              | (go_at_call 49; refine (HSAME.out _ _ _ _ _ HQ8.out HR9.out).mono ?_; rintro e w10 ⟨rfl, g1⟩; have HW10 : Hid (RowW w10 a8 m) := HW9.out.later g1; have HT10 : Hid (HpS w w10 P r T l2 M2 (fun k => (Value.slice a8 m c8).ownBlock = some k)) := HT9.out.later g1; clear g1))
            clear HALL HRALL HSAME HT2 HR8 HW8 HT8 HR9 HQ8 HW9 HT9
            go_loopw [18] (fun x18 wr => ∃ k : Nat, x18 = .int .i64 (k : Int) ∧ k ≤ m ∧ RowW wr a8 m ∧ HpS w wr P r T l2 M2 (fun k => (Value.slice a8 m c8).ownBlock = some k)) (fun x18 _ => m - (RowKit.intOf x18).toNat)
            case atStart => exact ⟨0, rfl, by omega, HW10.out, HT10.out⟩
            case round =>
              clear HW10 HT10
              obtain ⟨k, h18, hkm, hw, hs⟩ := hrel
              subst h18
              have HSX : Hid (HpS w wr P r T l2 M2 (fun k => (Value.slice a8 m c8).ownBlock = some k)) := hs
              clear hs
              by_cases hlt : k < m
              · obtain ⟨g, cur, rfl, hg, hsz⟩ := hw (by omega)
                obtain ⟨⟨u, hu⟩, hz, hrw⟩ := rowW_at hg hsz hlt
                have HNX : Hid (RowW (wr.setCell ⟨g, k * 7 + 2, none⟩ (.int .i64 (-7))) (some ⟨g, 0, none⟩) m ∧ HpS w (wr.setCell ⟨g, k * 7 + 2, none⟩ (.int .i64 (-7))) P r T l2 M2 (fun k => (Value.slice (some ⟨g, 0, none⟩) m c8).ownBlock = some k)) := ⟨hrw _, HSX.out.chg (cg_set wr g (k * 7 + 2) (.int .i64 (-7))) (fun k q => by subst q; rfl)⟩
                have hk0 : (0 : Int) ≤ (k : Int) := by omega
                have hk1 : (k : Int) < (m : Int) := by omega
                clear hg hsz hrw HSX hw
                go_wp2
                go_roundw
                case rel => first | exact ⟨k + 1, by go_num, by omega, HNX.out.1, HNX.out.2⟩ | ((repeat apply Exists.intro); exact ⟨⟨k + 1, by go_num, by omega, HNX.out.1, HNX.out.2⟩, rfl⟩)
                case measure => simp [RowKit.intOf]; omega
              · obtain rfl : m = k := by omega
                have HS9 : Hid (HpS w wr P r T l2 M2 nbK) := HSX.out.more (Below.refl _ _) (fun k hk => hk.elim)
                obtain ⟨at_, ct_, t0, t1⟩ := hp_cells HS9.out
                rw [← HPM.out.length_eq, ← HML.out] at t1
                have HLQ : Hid (∀ q, Calls Try.prog 51 #[.pointer (some ⟨P, 0, none⟩)] (wr.drewN q) fun e w' => e = .returned (.int .i64 (m : Int)) ∧ w' = wr.drewN q) := fun q => by rw [HML.out]; exact hp_len (HS9.out.later (bel_drewK (Below.refl _ wr) q))
                have HRQ : Hid (∀ q, Calls Try.prog 52 #[.pointer (some ⟨P, 0, none⟩)] (wr.drewN q) fun e w' => e = .returned (.int .i64 ((r : Int) - (m : Int))) ∧ ∃ q', w' = (wr.drewN q).drewN q') := fun q => by
                  rw [HML.out]
                  exact (hp_room (HS9.out.later (bel_drewK (Below.refl _ wr) q))).mono fun e w' hh => ⟨hh.1, 1, by rw [hh.2]; rfl⟩
                have HNX : Hid (∀ q, HpS w (wr.drewN q) P r T l2 M2 nbK) := fun q => HS9.out.later (bel_drewK (Below.refl _ wr) q)
                have hrm : IntKind.i64.wrap ((r : Int) - (m : Int)) = (r : Int) - (m : Int) := by rw [IntKind.wrap_i64]; omega
                clear HSX hw HS9
                go_upto_region 32 with fail
                go_quiet (first | (go_at_call 51; with_reducible exact Calls.quiet_of_same (HLQ.out _)) | (go_at_call 52; with_reducible exact Calls.quiet_of (HRQ.out _)))
                go_wp2
                go_roundw
                case rel => first | exact ⟨i + 1, l2, M2, by go_num, by omega, HPM.out, HLL.out.1, HNX.out _⟩ | ((repeat apply Exists.intro); exact ⟨⟨i + 1, l2, M2, by go_num, by omega, HPM.out, HLL.out.1, HNX.out _⟩, rfl⟩)
                case measure => simp [RowKit.intOf]; omega
          · have e2 : (kd == 2) = false := by simpa using k2
            by_cases k3 : kd = 3
            · subst k3
              go_upto_region 24 with fail
              clear c0
              obtain ⟨zz, hzz⟩ : ∃ zz, zz = hasK l o.a o.s := ⟨_, rfl⟩
              have HHAS : Hid (∀ W, HpS w W P r T l M (fun k => k = N) → Calls Try.prog 44 #[.pointer (some ⟨P, 0, none⟩), .int .i64 o.a, .int .i64 o.s] W fun e w' => e = .returned (.bool zz) ∧ Below W.heap.size W w') := fun W h => by rw [hzz]; exact hp_has h o.a o.s
              have HRHAS : Hid (∀ W, HpS w W P r T l M (fun k => k = N) → Calls Try.prog 45 #[.pointer (some ⟨T, 0, none⟩), .int .i64 o.a, .int .i64 o.s] W fun e w' => e = .returned (.bool zz) ∧ w' = W) := fun W h => by rw [hzz, perm_has HPL.out]; exact hp_rhas h (by have := HPL.out.length_eq; omega) o.a o.s
              clear hzz
              refine wp_region_noPanic ?_
              refine wp_region_held_drew (S := (fun w' => w'.cell? ⟨b, off + i * 9 + 2, none⟩ = some (.int .i64 o.c) ∧ w'.cell? ⟨b, off + i * 9 + 2 + 1, none⟩ = some (.int .i64 o.a) ∧ w'.cell? ⟨b, off + i * 9 + 2 + 2, none⟩ = some (.int .i64 o.s) ∧ w'.cell? ⟨b, off + i * 9 + 2 + 3, none⟩ = some (.bool o.ins) ∧ w'.cell? ⟨b, off + i * 9 + 2 + 4, none⟩ = some (.int .i64 o.rc) ∧ w'.cell? ⟨b, off + i * 9 + 2 + 5, none⟩ = some (.int .i64 o.ra) ∧ w'.cell? ⟨b, off + i * 9 + 2 + 6, none⟩ = some (.int .i32 o.ch))) (by kernel_rfl) (HC7.out _ (HTN.out.below.drew)) (fun hHeld => ?_)
              refine wpAnyH_take (i := 0) (v := ?_) rfl (by kernel_rfl) (by kernel_rfl) (by kernel_rfl) (fun _ _ _ h => h) (Or.inl ⟨by rfl, ?_⟩) (by assumption) ?_
              rotate_left
              · intro W' hSw; obtain ⟨s2, s3, s4, s5, s6, s7, s8⟩ := hSw; go_simp; try with_reducible rfl
              try simp only [Act.put, List.getElem_toArray, List.getElem_cons_succ, List.getElem_cons_zero, List.setIfInBounds_toArray, List.set_cons_zero, List.set_cons_succ]
              refine wpAnyH_take (i := 1) (v := ?_) rfl (by kernel_rfl) (by kernel_rfl) (by kernel_rfl) (fun _ _ _ h => h) (Or.inl ⟨by rfl, ?_⟩) (by assumption) ?_
              rotate_left
              · intro W' hSw; obtain ⟨s2, s3, s4, s5, s6, s7, s8⟩ := hSw; go_simp; try with_reducible rfl
              try simp only [Act.put, List.getElem_toArray, List.getElem_cons_succ, List.getElem_cons_zero, List.setIfInBounds_toArray, List.set_cons_zero, List.set_cons_succ]
              refine wpAnyH_take (i := 2) (v := ?_) rfl (by kernel_rfl) (by kernel_rfl) (by kernel_rfl) (fun _ _ _ h => h) (Or.inl ⟨by rfl, ?_⟩) (by assumption) ?_
              rotate_left
              · intro W' hSw; obtain ⟨s2, s3, s4, s5, s6, s7, s8⟩ := hSw; go_simp; try with_reducible rfl
              try simp only [Act.put, List.getElem_toArray, List.getElem_cons_succ, List.getElem_cons_zero, List.setIfInBounds_toArray, List.set_cons_zero, List.set_cons_succ]
              refine wpAnyH_take (i := 3) (v := ?_) rfl (by kernel_rfl) (by kernel_rfl) (by kernel_rfl) (fun _ _ _ h => h) (Or.inl ⟨by rfl, ?_⟩) (by assumption) ?_
              rotate_left
              · intro W' hSw; obtain ⟨s2, s3, s4, s5, s6, s7, s8⟩ := hSw; go_simp; try with_reducible rfl
              try simp only [Act.put, List.getElem_toArray, List.getElem_cons_succ, List.getElem_cons_zero, List.setIfInBounds_toArray, List.set_cons_zero, List.set_cons_succ]
              refine wpAnyH_take (i := 4) (v := ?_) rfl (by kernel_rfl) (by kernel_rfl) (by kernel_rfl) (fun _ _ _ h => h) (Or.inl ⟨by rfl, ?_⟩) (by assumption) ?_
              rotate_left
              · intro W' hSw; obtain ⟨s2, s3, s4, s5, s6, s7, s8⟩ := hSw; go_simp; try with_reducible rfl
              try simp only [Act.put, List.getElem_toArray, List.getElem_cons_succ, List.getElem_cons_zero, List.setIfInBounds_toArray, List.set_cons_zero, List.set_cons_succ]
              refine wpAnyH_take (i := 5) (v := ?_) rfl (by kernel_rfl) (by kernel_rfl) (by kernel_rfl) (fun _ _ _ h => h) (Or.inl ⟨by rfl, ?_⟩) (by assumption) ?_
              rotate_left
              · intro W' hSw; obtain ⟨s2, s3, s4, s5, s6, s7, s8⟩ := hSw; go_simp; try with_reducible rfl
              try simp only [Act.put, List.getElem_toArray, List.getElem_cons_succ, List.getElem_cons_zero, List.setIfInBounds_toArray, List.set_cons_zero, List.set_cons_succ]
              refine wpAnyH_take (i := 6) (v := ?_) rfl (by kernel_rfl) (by kernel_rfl) (by kernel_rfl) (fun _ _ _ h => h) (Or.inl ⟨by rfl, ?_⟩) (by assumption) ?_
              rotate_left
              · intro W' hSw; obtain ⟨s2, s3, s4, s5, s6, s7, s8⟩ := hSw; go_simp; try with_reducible rfl
              try simp only [Act.put, List.getElem_toArray, List.getElem_cons_succ, List.getElem_cons_zero, List.setIfInBounds_toArray, List.set_cons_zero, List.set_cons_succ]
              refine wpAnyH_take (i := 7) (v := ?_) rfl (by kernel_rfl) (by kernel_rfl) (by kernel_rfl) (fun _ _ _ h => h) (Or.inl ⟨by rfl, ?_⟩) (by assumption) ?_
              rotate_left
              · intro W' hSw; obtain ⟨s2, s3, s4, s5, s6, s7, s8⟩ := hSw; go_simp; try with_reducible rfl
              try simp only [Act.put, List.getElem_toArray, List.getElem_cons_succ, List.getElem_cons_zero, List.setIfInBounds_toArray, List.set_cons_zero, List.set_cons_succ]
              refine wpAnyH_take (i := 8) (v := ?_) rfl (by kernel_rfl) (by kernel_rfl) (by kernel_rfl) (fun _ _ _ h => h) (Or.inl ⟨by rfl, ?_⟩) (by assumption) ?_
              rotate_left
              · intro W' hSw; obtain ⟨s2, s3, s4, s5, s6, s7, s8⟩ := hSw; go_simp; try with_reducible rfl
              try simp only [Act.put, List.getElem_toArray, List.getElem_cons_succ, List.getElem_cons_zero, List.setIfInBounds_toArray, List.set_cons_zero, List.set_cons_succ]
              refine wpAnyH_take (i := 9) (v := ?_) rfl (by kernel_rfl) (by kernel_rfl) (by kernel_rfl) (fun _ _ _ h => h) (Or.inl ⟨by rfl, ?_⟩) (by assumption) ?_
              rotate_left
              · intro W' hSw; obtain ⟨s2, s3, s4, s5, s6, s7, s8⟩ := hSw; go_simp; try with_reducible rfl
              try simp only [Act.put, List.getElem_toArray, List.getElem_cons_succ, List.getElem_cons_zero, List.setIfInBounds_toArray, List.set_cons_zero, List.set_cons_succ]
              refine wpAnyH_take (i := 10) (v := ?_) rfl (by kernel_rfl) (by kernel_rfl) (by kernel_rfl) (fun _ _ _ h => h) (Or.inl ⟨by rfl, ?_⟩) (by assumption) ?_
              rotate_left
              · intro W' hSw; obtain ⟨s2, s3, s4, s5, s6, s7, s8⟩ := hSw; go_simp; try with_reducible rfl
              try simp only [Act.put, List.getElem_toArray, List.getElem_cons_succ, List.getElem_cons_zero, List.setIfInBounds_toArray, List.set_cons_zero, List.set_cons_succ]
              refine wpAnyH_take (i := 11) (v := ?_) rfl (by kernel_rfl) (by kernel_rfl) (by kernel_rfl) (fun _ _ _ h => h) (Or.inl ⟨by rfl, ?_⟩) (by assumption) ?_
              rotate_left
              · intro W' hSw; obtain ⟨s2, s3, s4, s5, s6, s7, s8⟩ := hSw; go_simp; try with_reducible rfl
              try simp only [Act.put, List.getElem_toArray, List.getElem_cons_succ, List.getElem_cons_zero, List.setIfInBounds_toArray, List.set_cons_zero, List.set_cons_succ]
              refine wpAnyH_take (i := 12) (v := ?_) rfl (by kernel_rfl) (by kernel_rfl) (by kernel_rfl) (fun _ _ _ h => h) (Or.inl ⟨by rfl, ?_⟩) (by assumption) ?_
              rotate_left
              · intro W' hSw; obtain ⟨s2, s3, s4, s5, s6, s7, s8⟩ := hSw; go_simp; try with_reducible rfl
              try simp only [Act.put, List.getElem_toArray, List.getElem_cons_succ, List.getElem_cons_zero, List.setIfInBounds_toArray, List.set_cons_zero, List.set_cons_succ]
              refine wpAnyH_take (i := 13) (v := ?_) rfl (by kernel_rfl) (by kernel_rfl) (by kernel_rfl) (fun _ _ _ h => h) (Or.inl ⟨by rfl, ?_⟩) (by assumption) ?_
              rotate_left
              · intro W' hSw; obtain ⟨s2, s3, s4, s5, s6, s7, s8⟩ := hSw; go_simp; try with_reducible rfl
              try simp only [Act.put, List.getElem_toArray, List.getElem_cons_succ, List.getElem_cons_zero, List.setIfInBounds_toArray, List.set_cons_zero, List.set_cons_succ]
              refine wpAnyH_take (i := 15) (v := ?_) rfl (by kernel_rfl) (by kernel_rfl) (by kernel_rfl) (fun _ _ _ h => h) (Or.inl ⟨by rfl, ?_⟩) (by assumption) ?_
              rotate_left
              · intro W' hSw; obtain ⟨s2, s3, s4, s5, s6, s7, s8⟩ := hSw; go_simp; try with_reducible rfl
              try simp only [Act.put, List.getElem_toArray, List.getElem_cons_succ, List.getElem_cons_zero, List.setIfInBounds_toArray, List.set_cons_zero, List.set_cons_succ]
              refine wpAnyH_take (i := 16) (v := ?_) rfl (by kernel_rfl) (by kernel_rfl) (by kernel_rfl) (fun _ _ _ h => h) (Or.inl ⟨by rfl, ?_⟩) (by assumption) ?_
              rotate_left
              · intro W' hSw; obtain ⟨s2, s3, s4, s5, s6, s7, s8⟩ := hSw; go_simp; try with_reducible rfl
              try simp only [Act.put, List.getElem_toArray, List.getElem_cons_succ, List.getElem_cons_zero, List.setIfInBounds_toArray, List.set_cons_zero, List.set_cons_succ]
              refine wpAnyH_take (i := 17) (v := ?_) rfl (by kernel_rfl) (by kernel_rfl) (by kernel_rfl) (fun _ _ _ h => h) (Or.inl ⟨by rfl, ?_⟩) (by assumption) ?_
              rotate_left
              · intro W' hSw; obtain ⟨s2, s3, s4, s5, s6, s7, s8⟩ := hSw; go_simp; try with_reducible rfl
              try simp only [Act.put, List.getElem_toArray, List.getElem_cons_succ, List.getElem_cons_zero, List.setIfInBounds_toArray, List.set_cons_zero, List.set_cons_succ]
              refine wpAnyH_take (i := 18) (v := ?_) rfl (by kernel_rfl) (by kernel_rfl) (by kernel_rfl) (fun _ _ _ h => h) (Or.inl ⟨by rfl, ?_⟩) (by assumption) ?_
              rotate_left
              · intro W' hSw; obtain ⟨s2, s3, s4, s5, s6, s7, s8⟩ := hSw; go_simp; try with_reducible rfl
              try simp only [Act.put, List.getElem_toArray, List.getElem_cons_succ, List.getElem_cons_zero, List.setIfInBounds_toArray, List.set_cons_zero, List.set_cons_succ]
              refine wpAnyH_take (i := 19) (v := ?_) rfl (by kernel_rfl) (by kernel_rfl) (by kernel_rfl) (fun _ _ _ h => h) (Or.inl ⟨by rfl, ?_⟩) (by assumption) ?_
              rotate_left
              · intro W' hSw; obtain ⟨s2, s3, s4, s5, s6, s7, s8⟩ := hSw; go_simp; try with_reducible rfl
              try simp only [Act.put, List.getElem_toArray, List.getElem_cons_succ, List.getElem_cons_zero, List.setIfInBounds_toArray, List.set_cons_zero, List.set_cons_succ]
              refine wpAnyH_take (i := 20) (v := ?_) rfl (by kernel_rfl) (by kernel_rfl) (by kernel_rfl) (fun _ _ _ h => h) (Or.inl ⟨by rfl, ?_⟩) (by assumption) ?_
              rotate_left
              · intro W' hSw; obtain ⟨s2, s3, s4, s5, s6, s7, s8⟩ := hSw; go_simp; try with_reducible rfl
              try simp only [Act.put, List.getElem_toArray, List.getElem_cons_succ, List.getElem_cons_zero, List.setIfInBounds_toArray, List.set_cons_zero, List.set_cons_succ]
              refine wpAnyH_take (i := 21) (v := ?_) rfl (by kernel_rfl) (by kernel_rfl) (by kernel_rfl) (fun _ _ _ h => h) (Or.inl ⟨by rfl, ?_⟩) (by assumption) ?_
              rotate_left
              · intro W' hSw; obtain ⟨s2, s3, s4, s5, s6, s7, s8⟩ := hSw; go_simp; try with_reducible rfl
              try simp only [Act.put, List.getElem_toArray, List.getElem_cons_succ, List.getElem_cons_zero, List.setIfInBounds_toArray, List.set_cons_zero, List.set_cons_succ]
              refine wpAnyH_take (i := 22) (v := ?_) rfl (by kernel_rfl) (by kernel_rfl) (by kernel_rfl) (fun _ _ _ h => h) (Or.inl ⟨by rfl, ?_⟩) (by assumption) ?_
              rotate_left
              · intro W' hSw; obtain ⟨s2, s3, s4, s5, s6, s7, s8⟩ := hSw; go_simp; try with_reducible rfl
              try simp only [Act.put, List.getElem_toArray, List.getElem_cons_succ, List.getElem_cons_zero, List.setIfInBounds_toArray, List.set_cons_zero, List.set_cons_succ]
              refine wpAnyH_take (i := 23) (v := ?_) rfl (by kernel_rfl) (by kernel_rfl) (by kernel_rfl) (fun _ _ _ h => h) (Or.inl ⟨by rfl, ?_⟩) (by assumption) ?_
              rotate_left
              · intro W' hSw; obtain ⟨s2, s3, s4, s5, s6, s7, s8⟩ := hSw; go_simp; try with_reducible rfl
              try simp only [Act.put, List.getElem_toArray, List.getElem_cons_succ, List.getElem_cons_zero, List.setIfInBounds_toArray, List.set_cons_zero, List.set_cons_succ]
              refine wpAnyH_take (i := 24) (v := ?_) rfl (by kernel_rfl) (by kernel_rfl) (by kernel_rfl) (fun _ _ _ h => h) (Or.inl ⟨by rfl, ?_⟩) (by assumption) ?_
              rotate_left
              · intro W' hSw; obtain ⟨s2, s3, s4, s5, s6, s7, s8⟩ := hSw; go_simp; try with_reducible rfl
              try simp only [Act.put, List.getElem_toArray, List.getElem_cons_succ, List.getElem_cons_zero, List.setIfInBounds_toArray, List.set_cons_zero, List.set_cons_succ]
              refine wpAnyH_take (i := 25) (v := ?_) rfl (by kernel_rfl) (by kernel_rfl) (by kernel_rfl) (fun _ _ _ h => h) (Or.inl ⟨by rfl, ?_⟩) (by assumption) ?_
              rotate_left
              · intro W' hSw; obtain ⟨s2, s3, s4, s5, s6, s7, s8⟩ := hSw; go_simp; try with_reducible rfl
              try simp only [Act.put, List.getElem_toArray, List.getElem_cons_succ, List.getElem_cons_zero, List.setIfInBounds_toArray, List.set_cons_zero, List.set_cons_succ]
              refine wpAnyH_take (i := 26) (v := ?_) rfl (by kernel_rfl) (by kernel_rfl) (by kernel_rfl) (fun _ _ _ h => h) (Or.inl ⟨by rfl, ?_⟩) (by assumption) ?_
              rotate_left
              · intro W' hSw; obtain ⟨s2, s3, s4, s5, s6, s7, s8⟩ := hSw; go_simp; try with_reducible rfl
              try simp only [Act.put, List.getElem_toArray, List.getElem_cons_succ, List.getElem_cons_zero, List.setIfInBounds_toArray, List.set_cons_zero, List.set_cons_succ]
              refine wpAnyH_take (i := 27) (v := ?_) rfl (by kernel_rfl) (by kernel_rfl) (by kernel_rfl) (fun _ _ _ h => h) (Or.inl ⟨by rfl, ?_⟩) (by assumption) ?_
              rotate_left
              · intro W' hSw; obtain ⟨s2, s3, s4, s5, s6, s7, s8⟩ := hSw; go_simp; try with_reducible rfl
              try simp only [Act.put, List.getElem_toArray, List.getElem_cons_succ, List.getElem_cons_zero, List.setIfInBounds_toArray, List.set_cons_zero, List.set_cons_succ]
              refine wpAnyH_take (i := 28) (v := ?_) rfl (by kernel_rfl) (by kernel_rfl) (by kernel_rfl) (fun _ _ _ h => h) (Or.inl ⟨by rfl, ?_⟩) (by assumption) ?_
              rotate_left
              · intro W' hSw; obtain ⟨s2, s3, s4, s5, s6, s7, s8⟩ := hSw; go_simp; try with_reducible rfl
              try simp only [Act.put, List.getElem_toArray, List.getElem_cons_succ, List.getElem_cons_zero, List.setIfInBounds_toArray, List.set_cons_zero, List.set_cons_succ]
              refine wpAnyH_ready (rs := [14]) (by kernel_rfl) (by simp) ?_
              refine AllReadyH.cons rfl (fun KK hK => ?_) AllReadyH.nil
              go_simp
              refine (HHAS.out _ (HTN.out.later (Below.refl _ W1).drew)).mono ?_
              rintro e w5 ⟨rfl, g1⟩
              have HS5 : Hid (HpS w w5 P r T l M (fun k => k = N)) := (HTN.out.later (Below.refl _ W1).drew).later g1
              clear g1
              refine hK.out _ _ (HC7.out _ HS5.out.below) (fun hHeld => ?_)
              clear hK KK
              try simp only [Act.put, List.getElem_toArray, List.getElem_cons_succ, List.getElem_cons_zero, List.setIfInBounds_toArray, List.set_cons_zero, List.set_cons_succ]
              refine wpAnyH_ready (rs := [29]) (by kernel_rfl) (by simp) ?_
              refine AllReadyH.cons rfl (fun KK hK => ?_) AllReadyH.nil
              go_simp
              refine (HRHAS.out _ HS5.out).mono ?_
              rintro e w6 ⟨rfl, hw6⟩
              have hw6 := hw6.symm
              subst hw6
              refine hK.out _ _ (HC7.out _ HS5.out.below) (fun hHeld => ?_)
              clear hK KK
              try simp only [Act.put, List.getElem_toArray, List.getElem_cons_succ, List.getElem_cons_zero, List.setIfInBounds_toArray, List.set_cons_zero, List.set_cons_succ]
              refine wpAnyH_take (i := 30) (v := ?_) rfl (by kernel_rfl) (by kernel_rfl) (by kernel_rfl) (fun _ _ _ h => h) (Or.inl ⟨by rfl, ?_⟩) (by assumption) ?_
              rotate_left
              · intro W' hSw; obtain ⟨s2, s3, s4, s5, s6, s7, s8⟩ := hSw; go_simp; try with_reducible rfl
              try simp only [Act.put, List.getElem_toArray, List.getElem_cons_succ, List.getElem_cons_zero, List.setIfInBounds_toArray, List.set_cons_zero, List.set_cons_succ]
              refine wpAnyH_done (by kernel_rfl) ?_ _
              refine NoPanic.normal ?_
              clear hHeld
              obtain ⟨l2, hl2⟩ : ∃ l2, l2 = l := ⟨_, rfl⟩
              obtain ⟨M2, hM2⟩ : ∃ M2, M2 = M := ⟨_, rfl⟩
              have HPM : Hid (l2.Perm M2) := (show l2.Perm M2 by rw [hl2, hM2]; exact HPL.out)
              have HLL : Hid (l2.length ≤ i + 1 ∧ i < 100) := (show l2.length ≤ i + 1 ∧ i < 100 by rw [hl2]; omega)
              rw [← hl2, ← hM2] at HS5
              have HT2 : Hid (HpS w w5 P r T l2 M2 nbK) := HS5.out.more (Below.refl _ _) (fun k hk => hk.elim)
              clear hl2 hM2 HHAS HRHAS HS5 HTN HC7 HNB HER HPL HLI
              obtain ⟨m, hm⟩ : ∃ m, m = l2.length := ⟨_, rfl⟩
              have HALL : Hid (∀ W, HpS w W P r T l2 M2 nbK → Calls Try.prog 48 #[.pointer (some ⟨P, 0, none⟩)] W fun e w' => ∃ a c, e = .returned (.slice a m c) ∧ RdP w' a m l2 ∧ RowW w' a m ∧ HpS w w' P r T l2 M2 (fun k => (Value.slice a m c).ownBlock = some k)) := fun W h => (hp_all h).mono fun e w' q => by
                obtain ⟨a, c, rfl, q1, q2⟩ := q
                rw [← hm] at q1
                obtain ⟨a9, c9, e9, _, _, r9, _⟩ := rdP_own q1
                cases e9
                exact ⟨a, c, by rw [hm], r9, rowW_own q1, h.more q2 (fun k hk => .inr (q1.lt k hk))⟩
              have HRALL : Hid (∀ W bs, HpS w W P r T l2 M2 bs → Calls Try.prog 50 #[.pointer (some ⟨T, 0, none⟩)] W fun e w' => ∃ a c, e = .returned (.slice a m c) ∧ RdP w' a m l2 ∧ Below W.heap.size W w') := fun W bs h => (hp_rall h HPM.out (by have := HPM.out.length_eq; have := HLL.out; omega)).mono fun e w' q => by
                obtain ⟨a, c, rfl, q1, q2⟩ := q
                rw [← hm] at q1
                exact ⟨a, c, by rw [hm], q1, q2⟩
              have HSAME : Hid (∀ W (a b : Option Addr) (c d : Nat), RdP W a m l2 → RdP W b m l2 → Calls Try.prog 49 #[.slice a m c, .slice b m d] W fun e w' => e = .returned (.bool true) ∧ Below W.heap.size W w') := fun W a b c d h1 h2 => sameK_any l2 l2 a b m m c d W h1 h2 (by have := HLL.out; omega) true (by simp)
              have hm1 : m ≤ 1000 := by have := HLL.out; omega
              have HML : Hid (m = l2.length) := hm
              clear hm
              go_upto_region 29 with (first
                | (go_at_call 48; refine (HALL.out _ HT2.out).mono ?_; rintro e w8 ⟨a8, c8, rfl, g1, g2, g3⟩; have HR8 : Hid (RdP w8 a8 m l2) := g1; have HW8 : Hid (RowW w8 a8 m) := g2; have HT8 : Hid (HpS w w8 P r T l2 M2 (fun k => (Value.slice a8 m c8).ownBlock = some k)) := g3; clear g1 g2 g3)
                | (go_at_call 50; refine (HRALL.out _ _ HT8.out).mono ?_; rintro e w9 ⟨a9, c9, rfl, g1, g2⟩; have HR9 : Hid (RdP w9 a9 m l2) := g1; have HQ8 : Hid (RdP w9 a8 m l2) := HR8.out.later g2; have HW9 : Hid (RowW w9 a8 m) := HW8.out.later g2; have HT9 : Hid (HpS w w9 P r T l2 M2 (fun k => (Value.slice a8 m c8).ownBlock = some k)) := HT8.out.later g2; clear g1 g2)
                | (go_at_call 49; refine (HSAME.out _ _ _ _ _ HQ8.out HR9.out).mono ?_; rintro e w10 ⟨rfl, g1⟩; have HW10 : Hid (RowW w10 a8 m) := HW9.out.later g1; have HT10 : Hid (HpS w w10 P r T l2 M2 (fun k => (Value.slice a8 m c8).ownBlock = some k)) := HT9.out.later g1; clear g1))
              clear HALL HRALL HSAME HT2 HR8 HW8 HT8 HR9 HQ8 HW9 HT9
              go_loopw [18] (fun x18 wr => ∃ k : Nat, x18 = .int .i64 (k : Int) ∧ k ≤ m ∧ RowW wr a8 m ∧ HpS w wr P r T l2 M2 (fun k => (Value.slice a8 m c8).ownBlock = some k)) (fun x18 _ => m - (RowKit.intOf x18).toNat)
              case atStart => exact ⟨0, rfl, by omega, HW10.out, HT10.out⟩
              case round =>
                clear HW10 HT10
                obtain ⟨k, h18, hkm, hw, hs⟩ := hrel
                subst h18
                have HSX : Hid (HpS w wr P r T l2 M2 (fun k => (Value.slice a8 m c8).ownBlock = some k)) := hs
                clear hs
                by_cases hlt : k < m
                · obtain ⟨g, cur, rfl, hg, hsz⟩ := hw (by omega)
                  obtain ⟨⟨u, hu⟩, hz, hrw⟩ := rowW_at hg hsz hlt
                  have HNX : Hid (RowW (wr.setCell ⟨g, k * 7 + 2, none⟩ (.int .i64 (-7))) (some ⟨g, 0, none⟩) m ∧ HpS w (wr.setCell ⟨g, k * 7 + 2, none⟩ (.int .i64 (-7))) P r T l2 M2 (fun k => (Value.slice (some ⟨g, 0, none⟩) m c8).ownBlock = some k)) := ⟨hrw _, HSX.out.chg (cg_set wr g (k * 7 + 2) (.int .i64 (-7))) (fun k q => by subst q; rfl)⟩
                  have hk0 : (0 : Int) ≤ (k : Int) := by omega
                  have hk1 : (k : Int) < (m : Int) := by omega
                  clear hg hsz hrw HSX hw
                  go_wp2
                  go_roundw
                  case rel => first | exact ⟨k + 1, by go_num, by omega, HNX.out.1, HNX.out.2⟩ | ((repeat apply Exists.intro); exact ⟨⟨k + 1, by go_num, by omega, HNX.out.1, HNX.out.2⟩, rfl⟩)
                  case measure => simp [RowKit.intOf]; omega
                · obtain rfl : m = k := by omega
                  have HS9 : Hid (HpS w wr P r T l2 M2 nbK) := HSX.out.more (Below.refl _ _) (fun k hk => hk.elim)
                  obtain ⟨at_, ct_, t0, t1⟩ := hp_cells HS9.out
                  rw [← HPM.out.length_eq, ← HML.out] at t1
                  have HLQ : Hid (∀ q, Calls Try.prog 51 #[.pointer (some ⟨P, 0, none⟩)] (wr.drewN q) fun e w' => e = .returned (.int .i64 (m : Int)) ∧ w' = wr.drewN q) := fun q => by rw [HML.out]; exact hp_len (HS9.out.later (bel_drewK (Below.refl _ wr) q))
                  have HRQ : Hid (∀ q, Calls Try.prog 52 #[.pointer (some ⟨P, 0, none⟩)] (wr.drewN q) fun e w' => e = .returned (.int .i64 ((r : Int) - (m : Int))) ∧ ∃ q', w' = (wr.drewN q).drewN q') := fun q => by
                    rw [HML.out]
                    exact (hp_room (HS9.out.later (bel_drewK (Below.refl _ wr) q))).mono fun e w' hh => ⟨hh.1, 1, by rw [hh.2]; rfl⟩
                  have HNX : Hid (∀ q, HpS w (wr.drewN q) P r T l2 M2 nbK) := fun q => HS9.out.later (bel_drewK (Below.refl _ wr) q)
                  have hrm : IntKind.i64.wrap ((r : Int) - (m : Int)) = (r : Int) - (m : Int) := by rw [IntKind.wrap_i64]; omega
                  clear HSX hw HS9
                  go_upto_region 32 with fail
                  go_quiet (first | (go_at_call 51; with_reducible exact Calls.quiet_of_same (HLQ.out _)) | (go_at_call 52; with_reducible exact Calls.quiet_of (HRQ.out _)))
                  go_wp2
                  go_roundw
                  case rel => first | exact ⟨i + 1, l2, M2, by go_num, by omega, HPM.out, HLL.out.1, HNX.out _⟩ | ((repeat apply Exists.intro); exact ⟨⟨i + 1, l2, M2, by go_num, by omega, HPM.out, HLL.out.1, HNX.out _⟩, rfl⟩)
                  case measure => simp [RowKit.intOf]; omega
            · have e3 : (kd == 3) = false := by simpa using k3
              go_upto_region 11 with fail
              clear c0
              have HADD : Hid (Calls Try.prog 46 #[.pointer (some ⟨P, 0, none⟩), .agg #[.int .i64 o.c, .int .i64 o.a, .int .i64 o.s, .bool o.ins, .int .i64 o.rc, .int .i64 o.ra, .int .i32 o.ch]] W1.drew fun e w' => e = .returned (.int .i64 ER) ∧ HpS w w' P r T (addK l r o) M (fun k => k = N)) := (hp_add (HTN.out.later (Below.refl _ W1).drew) o (by omega)).mono fun e w' q => ⟨by rw [← HER.out]; exact q.1, q.2.1⟩
              have HRADD : Hid (∀ W, HpS w W P r T (addK l r o) M (fun k => k = N) → Calls Try.prog 47 #[.pointer (some ⟨T, 0, none⟩), .agg #[.int .i64 o.c, .int .i64 o.a, .int .i64 o.s, .bool o.ins, .int .i64 o.rc, .int .i64 o.ra, .int .i32 o.ch]] W fun e w' => e = .returned (.int .i64 ER) ∧ HpS w w' P r T (addK l r o) (rfA M r o) (fun k => k = N)) := fun W h => (hp_radd h o (by have := HPL.out.length_eq; omega)).mono fun e w' q => ⟨by rw [← HER.out, (perm_add HPL.out r o).1]; exact q.1, q.2.1⟩
              refine wp_region_noPanic ?_
              refine wp_region_held_drew (S := (fun w' => w'.cell? ⟨b, off + i * 9 + 2, none⟩ = some (.int .i64 o.c) ∧ w'.cell? ⟨b, off + i * 9 + 2 + 1, none⟩ = some (.int .i64 o.a) ∧ w'.cell? ⟨b, off + i * 9 + 2 + 2, none⟩ = some (.int .i64 o.s) ∧ w'.cell? ⟨b, off + i * 9 + 2 + 3, none⟩ = some (.bool o.ins) ∧ w'.cell? ⟨b, off + i * 9 + 2 + 4, none⟩ = some (.int .i64 o.rc) ∧ w'.cell? ⟨b, off + i * 9 + 2 + 5, none⟩ = some (.int .i64 o.ra) ∧ w'.cell? ⟨b, off + i * 9 + 2 + 6, none⟩ = some (.int .i32 o.ch))) (by kernel_rfl) (HC7.out _ (HTN.out.below.drew)) (fun hHeld => ?_)
              refine wpAnyH_take (i := 0) (v := ?_) rfl (by kernel_rfl) (by kernel_rfl) (by kernel_rfl) (fun _ _ _ h => h) (Or.inl ⟨by rfl, ?_⟩) (by assumption) ?_
              rotate_left
              · intro W' hSw; obtain ⟨s2, s3, s4, s5, s6, s7, s8⟩ := hSw; go_simp; try with_reducible rfl
              try simp only [Act.put, List.getElem_toArray, List.getElem_cons_succ, List.getElem_cons_zero, List.setIfInBounds_toArray, List.set_cons_zero, List.set_cons_succ]
              refine wpAnyH_take (i := 1) (v := ?_) rfl (by kernel_rfl) (by kernel_rfl) (by kernel_rfl) (fun _ _ _ h => h) (Or.inl ⟨by rfl, ?_⟩) (by assumption) ?_
              rotate_left
              · intro W' hSw; obtain ⟨s2, s3, s4, s5, s6, s7, s8⟩ := hSw; go_simp; try with_reducible rfl
              try simp only [Act.put, List.getElem_toArray, List.getElem_cons_succ, List.getElem_cons_zero, List.setIfInBounds_toArray, List.set_cons_zero, List.set_cons_succ]
              refine wpAnyH_take (i := 2) (v := ?_) rfl (by kernel_rfl) (by kernel_rfl) (by kernel_rfl) (fun _ _ _ h => h) (Or.inl ⟨by rfl, ?_⟩) (by assumption) ?_
              rotate_left
              · intro W' hSw; obtain ⟨s2, s3, s4, s5, s6, s7, s8⟩ := hSw; go_simp; try with_reducible rfl
              try simp only [Act.put, List.getElem_toArray, List.getElem_cons_succ, List.getElem_cons_zero, List.setIfInBounds_toArray, List.set_cons_zero, List.set_cons_succ]
              refine wpAnyH_take (i := 3) (v := ?_) rfl (by kernel_rfl) (by kernel_rfl) (by kernel_rfl) (fun _ _ _ h => h) (Or.inl ⟨by rfl, ?_⟩) (by assumption) ?_
              rotate_left
              · intro W' hSw; obtain ⟨s2, s3, s4, s5, s6, s7, s8⟩ := hSw; go_simp; try with_reducible rfl
              try simp only [Act.put, List.getElem_toArray, List.getElem_cons_succ, List.getElem_cons_zero, List.setIfInBounds_toArray, List.set_cons_zero, List.set_cons_succ]
              refine wpAnyH_take (i := 4) (v := ?_) rfl (by kernel_rfl) (by kernel_rfl) (by kernel_rfl) (fun _ _ _ h => h) (Or.inl ⟨by rfl, ?_⟩) (by assumption) ?_
              rotate_left
              · intro W' hSw; obtain ⟨s2, s3, s4, s5, s6, s7, s8⟩ := hSw; go_simp; try with_reducible rfl
              try simp only [Act.put, List.getElem_toArray, List.getElem_cons_succ, List.getElem_cons_zero, List.setIfInBounds_toArray, List.set_cons_zero, List.set_cons_succ]
              refine wpAnyH_take (i := 5) (v := ?_) rfl (by kernel_rfl) (by kernel_rfl) (by kernel_rfl) (fun _ _ _ h => h) (Or.inl ⟨by rfl, ?_⟩) (by assumption) ?_
              rotate_left
              · intro W' hSw; obtain ⟨s2, s3, s4, s5, s6, s7, s8⟩ := hSw; go_simp; try with_reducible rfl
              try simp only [Act.put, List.getElem_toArray, List.getElem_cons_succ, List.getElem_cons_zero, List.setIfInBounds_toArray, List.set_cons_zero, List.set_cons_succ]
              refine wpAnyH_take (i := 7) (v := ?_) rfl (by kernel_rfl) (by kernel_rfl) (by kernel_rfl) (fun _ _ _ h => h) (Or.inl ⟨by rfl, ?_⟩) (by assumption) ?_
              rotate_left
              · intro W' hSw; obtain ⟨s2, s3, s4, s5, s6, s7, s8⟩ := hSw; go_simp; try with_reducible rfl
              try simp only [Act.put, List.getElem_toArray, List.getElem_cons_succ, List.getElem_cons_zero, List.setIfInBounds_toArray, List.set_cons_zero, List.set_cons_succ]
              refine wpAnyH_take (i := 8) (v := ?_) rfl (by kernel_rfl) (by kernel_rfl) (by kernel_rfl) (fun _ _ _ h => h) (Or.inl ⟨by rfl, ?_⟩) (by assumption) ?_
              rotate_left
              · intro W' hSw; obtain ⟨s2, s3, s4, s5, s6, s7, s8⟩ := hSw; go_simp; try with_reducible rfl
              try simp only [Act.put, List.getElem_toArray, List.getElem_cons_succ, List.getElem_cons_zero, List.setIfInBounds_toArray, List.set_cons_zero, List.set_cons_succ]
              refine wpAnyH_take (i := 9) (v := ?_) rfl (by kernel_rfl) (by kernel_rfl) (by kernel_rfl) (fun _ _ _ h => h) (Or.inl ⟨by rfl, ?_⟩) (by assumption) ?_
              rotate_left
              · intro W' hSw; obtain ⟨s2, s3, s4, s5, s6, s7, s8⟩ := hSw; go_simp; try with_reducible rfl
              try simp only [Act.put, List.getElem_toArray, List.getElem_cons_succ, List.getElem_cons_zero, List.setIfInBounds_toArray, List.set_cons_zero, List.set_cons_succ]
              refine wpAnyH_take (i := 10) (v := ?_) rfl (by kernel_rfl) (by kernel_rfl) (by kernel_rfl) (fun _ _ _ h => h) (Or.inl ⟨by rfl, ?_⟩) (by assumption) ?_
              rotate_left
              · intro W' hSw; obtain ⟨s2, s3, s4, s5, s6, s7, s8⟩ := hSw; go_simp; try with_reducible rfl
              try simp only [Act.put, List.getElem_toArray, List.getElem_cons_succ, List.getElem_cons_zero, List.setIfInBounds_toArray, List.set_cons_zero, List.set_cons_succ]
              refine wpAnyH_take (i := 11) (v := ?_) rfl (by kernel_rfl) (by kernel_rfl) (by kernel_rfl) (fun _ _ _ h => h) (Or.inl ⟨by rfl, ?_⟩) (by assumption) ?_
              rotate_left
              · intro W' hSw; obtain ⟨s2, s3, s4, s5, s6, s7, s8⟩ := hSw; go_simp; try with_reducible rfl
              try simp only [Act.put, List.getElem_toArray, List.getElem_cons_succ, List.getElem_cons_zero, List.setIfInBounds_toArray, List.set_cons_zero, List.set_cons_succ]
              refine wpAnyH_take (i := 12) (v := ?_) rfl (by kernel_rfl) (by kernel_rfl) (by kernel_rfl) (fun _ _ _ h => h) (Or.inl ⟨by rfl, ?_⟩) (by assumption) ?_
              rotate_left
              · intro W' hSw; obtain ⟨s2, s3, s4, s5, s6, s7, s8⟩ := hSw; go_simp; try with_reducible rfl
              try simp only [Act.put, List.getElem_toArray, List.getElem_cons_succ, List.getElem_cons_zero, List.setIfInBounds_toArray, List.set_cons_zero, List.set_cons_succ]
              refine wpAnyH_ready (rs := [6]) (by kernel_rfl) (by simp) ?_
              refine AllReadyH.cons rfl (fun KK hK => ?_) AllReadyH.nil
              go_simp
              refine HADD.out.mono ?_
              rintro e w5 ⟨rfl, g1⟩
              have HS5 : Hid (HpS w w5 P r T (addK l r o) M (fun k => k = N)) := g1
              clear g1
              refine hK.out _ _ (HC7.out _ HS5.out.below) (fun hHeld => ?_)
              clear hK KK
              try simp only [Act.put, List.getElem_toArray, List.getElem_cons_succ, List.getElem_cons_zero, List.setIfInBounds_toArray, List.set_cons_zero, List.set_cons_succ]
              refine wpAnyH_ready (rs := [13]) (by kernel_rfl) (by simp) ?_
              refine AllReadyH.cons rfl (fun KK hK => ?_) AllReadyH.nil
              go_simp
              refine (HRADD.out _ HS5.out).mono ?_
              rintro e w6 ⟨rfl, g1⟩
              have HS6 : Hid (HpS w w6 P r T (addK l r o) (rfA M r o) (fun k => k = N)) := g1
              clear g1
              refine hK.out _ _ (HC7.out _ HS6.out.below) (fun hHeld => ?_)
              clear hK KK
              try simp only [Act.put, List.getElem_toArray, List.getElem_cons_succ, List.getElem_cons_zero, List.setIfInBounds_toArray, List.set_cons_zero, List.set_cons_succ]
              refine wpAnyH_take (i := 14) (v := ?_) rfl (by kernel_rfl) (by kernel_rfl) (by kernel_rfl) (fun _ _ _ h => h) (Or.inl ⟨by rfl, ?_⟩) (by assumption) ?_
              rotate_left
              · intro W' hSw; obtain ⟨s2, s3, s4, s5, s6, s7, s8⟩ := hSw; go_simp; try with_reducible rfl
              try simp only [Act.put, List.getElem_toArray, List.getElem_cons_succ, List.getElem_cons_zero, List.setIfInBounds_toArray, List.set_cons_zero, List.set_cons_succ]
              refine wpAnyH_done (by kernel_rfl) ?_ _
              refine NoPanic.normal ?_
              clear hHeld
              obtain ⟨l2, hl2⟩ : ∃ l2, l2 = addK l r o := ⟨_, rfl⟩
              obtain ⟨M2, hM2⟩ : ∃ M2, M2 = rfA M r o := ⟨_, rfl⟩
              have HPM : Hid (l2.Perm M2) := (show l2.Perm M2 by rw [hl2, hM2]; exact (perm_add HPL.out r o).2)
              have HLL : Hid (l2.length ≤ i + 1 ∧ i < 100) := (show l2.length ≤ i + 1 ∧ i < 100 by have := addK_len1 l r o; rw [hl2]; omega)
              rw [← hl2, ← hM2] at HS6
              have HT2 : Hid (HpS w w6 P r T l2 M2 nbK) := HS6.out.more (Below.refl _ _) (fun k hk => hk.elim)
              clear hl2 hM2 HADD HRADD HS5 HS6 HTN HC7 HNB HER HPL HLI
              obtain ⟨m, hm⟩ : ∃ m, m = l2.length := ⟨_, rfl⟩
              have HALL : Hid (∀ W, HpS w W P r T l2 M2 nbK → Calls Try.prog 48 #[.pointer (some ⟨P, 0, none⟩)] W fun e w' => ∃ a c, e = .returned (.slice a m c) ∧ RdP w' a m l2 ∧ RowW w' a m ∧ HpS w w' P r T l2 M2 (fun k => (Value.slice a m c).ownBlock = some k)) := fun W h => (hp_all h).mono fun e w' q => by
                obtain ⟨a, c, rfl, q1, q2⟩ := q
                rw [← hm] at q1
                obtain ⟨a9, c9, e9, _, _, r9, _⟩ := rdP_own q1
                cases e9
                exact ⟨a, c, by rw [hm], r9, rowW_own q1, h.more q2 (fun k hk => .inr (q1.lt k hk))⟩
              have HRALL : Hid (∀ W bs, HpS w W P r T l2 M2 bs → Calls Try.prog 50 #[.pointer (some ⟨T, 0, none⟩)] W fun e w' => ∃ a c, e = .returned (.slice a m c) ∧ RdP w' a m l2 ∧ Below W.heap.size W w') := fun W bs h => (hp_rall h HPM.out (by have := HPM.out.length_eq; have := HLL.out; omega)).mono fun e w' q => by
                obtain ⟨a, c, rfl, q1, q2⟩ := q
                rw [← hm] at q1
                exact ⟨a, c, by rw [hm], q1, q2⟩
              have HSAME : Hid (∀ W (a b : Option Addr) (c d : Nat), RdP W a m l2 → RdP W b m l2 → Calls Try.prog 49 #[.slice a m c, .slice b m d] W fun e w' => e = .returned (.bool true) ∧ Below W.heap.size W w') := fun W a b c d h1 h2 => sameK_any l2 l2 a b m m c d W h1 h2 (by have := HLL.out; omega) true (by simp)
              have hm1 : m ≤ 1000 := by have := HLL.out; omega
              have HML : Hid (m = l2.length) := hm
              clear hm
              go_upto_region 29 with (first
                | (go_at_call 48; refine (HALL.out _ HT2.out).mono ?_; rintro e w8 ⟨a8, c8, rfl, g1, g2, g3⟩; have HR8 : Hid (RdP w8 a8 m l2) := g1; have HW8 : Hid (RowW w8 a8 m) := g2; have HT8 : Hid (HpS w w8 P r T l2 M2 (fun k => (Value.slice a8 m c8).ownBlock = some k)) := g3; clear g1 g2 g3)
                | (go_at_call 50; refine (HRALL.out _ _ HT8.out).mono ?_; rintro e w9 ⟨a9, c9, rfl, g1, g2⟩; have HR9 : Hid (RdP w9 a9 m l2) := g1; have HQ8 : Hid (RdP w9 a8 m l2) := HR8.out.later g2; have HW9 : Hid (RowW w9 a8 m) := HW8.out.later g2; have HT9 : Hid (HpS w w9 P r T l2 M2 (fun k => (Value.slice a8 m c8).ownBlock = some k)) := HT8.out.later g2; clear g1 g2)
                | (go_at_call 49; refine (HSAME.out _ _ _ _ _ HQ8.out HR9.out).mono ?_; rintro e w10 ⟨rfl, g1⟩; have HW10 : Hid (RowW w10 a8 m) := HW9.out.later g1; have HT10 : Hid (HpS w w10 P r T l2 M2 (fun k => (Value.slice a8 m c8).ownBlock = some k)) := HT9.out.later g1; clear g1))
              clear HALL HRALL HSAME HT2 HR8 HW8 HT8 HR9 HQ8 HW9 HT9
              go_loopw [18] (fun x18 wr => ∃ k : Nat, x18 = .int .i64 (k : Int) ∧ k ≤ m ∧ RowW wr a8 m ∧ HpS w wr P r T l2 M2 (fun k => (Value.slice a8 m c8).ownBlock = some k)) (fun x18 _ => m - (RowKit.intOf x18).toNat)
              case atStart => exact ⟨0, rfl, by omega, HW10.out, HT10.out⟩
              case round =>
                clear HW10 HT10
                obtain ⟨k, h18, hkm, hw, hs⟩ := hrel
                subst h18
                have HSX : Hid (HpS w wr P r T l2 M2 (fun k => (Value.slice a8 m c8).ownBlock = some k)) := hs
                clear hs
                by_cases hlt : k < m
                · obtain ⟨g, cur, rfl, hg, hsz⟩ := hw (by omega)
                  obtain ⟨⟨u, hu⟩, hz, hrw⟩ := rowW_at hg hsz hlt
                  have HNX : Hid (RowW (wr.setCell ⟨g, k * 7 + 2, none⟩ (.int .i64 (-7))) (some ⟨g, 0, none⟩) m ∧ HpS w (wr.setCell ⟨g, k * 7 + 2, none⟩ (.int .i64 (-7))) P r T l2 M2 (fun k => (Value.slice (some ⟨g, 0, none⟩) m c8).ownBlock = some k)) := ⟨hrw _, HSX.out.chg (cg_set wr g (k * 7 + 2) (.int .i64 (-7))) (fun k q => by subst q; rfl)⟩
                  have hk0 : (0 : Int) ≤ (k : Int) := by omega
                  have hk1 : (k : Int) < (m : Int) := by omega
                  clear hg hsz hrw HSX hw
                  go_wp2
                  go_roundw
                  case rel => first | exact ⟨k + 1, by go_num, by omega, HNX.out.1, HNX.out.2⟩ | ((repeat apply Exists.intro); exact ⟨⟨k + 1, by go_num, by omega, HNX.out.1, HNX.out.2⟩, rfl⟩)
                  case measure => simp [RowKit.intOf]; omega
                · obtain rfl : m = k := by omega
                  have HS9 : Hid (HpS w wr P r T l2 M2 nbK) := HSX.out.more (Below.refl _ _) (fun k hk => hk.elim)
                  obtain ⟨at_, ct_, t0, t1⟩ := hp_cells HS9.out
                  rw [← HPM.out.length_eq, ← HML.out] at t1
                  have HLQ : Hid (∀ q, Calls Try.prog 51 #[.pointer (some ⟨P, 0, none⟩)] (wr.drewN q) fun e w' => e = .returned (.int .i64 (m : Int)) ∧ w' = wr.drewN q) := fun q => by rw [HML.out]; exact hp_len (HS9.out.later (bel_drewK (Below.refl _ wr) q))
                  have HRQ : Hid (∀ q, Calls Try.prog 52 #[.pointer (some ⟨P, 0, none⟩)] (wr.drewN q) fun e w' => e = .returned (.int .i64 ((r : Int) - (m : Int))) ∧ ∃ q', w' = (wr.drewN q).drewN q') := fun q => by
                    rw [HML.out]
                    exact (hp_room (HS9.out.later (bel_drewK (Below.refl _ wr) q))).mono fun e w' hh => ⟨hh.1, 1, by rw [hh.2]; rfl⟩
                  have HNX : Hid (∀ q, HpS w (wr.drewN q) P r T l2 M2 nbK) := fun q => HS9.out.later (bel_drewK (Below.refl _ wr) q)
                  have hrm : IntKind.i64.wrap ((r : Int) - (m : Int)) = (r : Int) - (m : Int) := by rw [IntKind.wrap_i64]; omega
                  clear HSX hw HS9
                  go_upto_region 32 with fail
                  go_quiet (first | (go_at_call 51; with_reducible exact Calls.quiet_of_same (HLQ.out _)) | (go_at_call 52; with_reducible exact Calls.quiet_of (HRQ.out _)))
                  go_wp2
                  go_roundw
                  case rel => first | exact ⟨i + 1, l2, M2, by go_num, by omega, HPM.out, HLL.out.1, HNX.out _⟩ | ((repeat apply Exists.intro); exact ⟨⟨i + 1, l2, M2, by go_num, by omega, HPM.out, HLL.out.1, HNX.out _⟩, rfl⟩)
                  case measure => simp [RowKit.intOf]; omega
end Go.Proofs.Ytcbnmahbdcjamaa
