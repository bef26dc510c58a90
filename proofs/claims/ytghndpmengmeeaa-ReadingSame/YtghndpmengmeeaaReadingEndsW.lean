/- The walk of ReadingEnds. -/
import Derived.Test.YtghndpmengmeeaaReaZ
namespace Go.Proofs.Ytghndpmengmeeaa
open Go.RowKit
set_option linter.unusedVariables false

/-- append of a source that may be nothing. -/
theorem wpList_append_src {P : Program} {w : World} {ops : Array Oper} {rest : List Oper} {o : Oper} {a : Act} {Q : Exit → Act → World → Prop} (hgd : o.guard = none) (s x : Operand) (t : TypeId)
    (ho : o.op = .call { callee := .builtin .append, args := #[s, x], argTypes := #[t, t] })
    (base : Nat) (e : TypeId) (i : TypeInfo) (z : Value) (size bytes : Nat) (ht : P.underlying t = some (.slice e)) (hi : P.info? e = some i) (hz : i.zero = some z)
    (hsize : i.size = size) (hby : i.bytes = bytes) (hzs : z.cells.size = size) (hsz : 0 < size)
    (v : Value) (n : Nat) (xs : List Value) (hs : a.eval s = v) (hown : w.ownsRow base e size v n xs)
    (ad : Option Addr) (m c : Nat) (news : List Value) (hx : a.eval x = .slice ad m c) (hsrc : SrcAt w ad m c size news)
    (h63 : n + m ≤ maxLen) (hbytes : (n + m) * bytes ≤ 140737488355328) (hbase : base ≤ w.heap.size)
    (h : ∀ v' w', w'.ownsRow base e size v' (n + m) (xs ++ news) → w.grownBy w' v.ownBlock → wpList P ops Q rest (a.put o.dst v') w') : wpList P ops Q (o :: rest) a w := by
  obtain ⟨s1, s2, s3, s4⟩ := hsrc
  cases ad with
  | some b => exact wpList_append_own _ hgd s x t ho base e i z size bytes ht hi hz hsize hby hzs hsz v n xs hs hown b m c news hx s1 (s3 b rfl) s4 h63 hbytes hbase (fun v' w' h1 h2 _ => h v' w' h1 h2)
  | none =>
    obtain ⟨rfl, rfl⟩ := s2 rfl
    obtain rfl : news = [] := List.eq_nil_of_length_eq_zero (by simpa using s1)
    exact wpList_append_own_none hgd s x t ho base e i size ht hi v n xs hs hown hx (h v w (by simpa using hown) ⟨rfl, rfl, rfl, Nat.le_refl _, fun _ _ _ => rfl⟩)
theorem below_drewN {B : Nat} {w w' : World} (h : Below B w w') (n : Nat) : Below B w (w'.drewN n) := ⟨h.os, h.tape, h.output, h.size, h.block⟩
/-- The rule that is nothing. -/
def rule0 : Rl := ⟨nilNd, nilNd, false, false⟩
def q00 : RlP := ⟨none, 0, none, 0, none, 0, none, 0⟩
theorem rule0_at (w : World) : RlAt w 12 rule0 q00 := ⟨InV.leaf w 11 0 [] none 0 (rd_nil _ _) (by simp), InV.leaf w 11 0 [] none 0 (rd_nil _ _) (by simp)⟩
theorem rule0_fit (xs : List Int) (p : Nat) : rule0.fit xs p = true := by
  have h1 : (nilNd.nrm false).emp = true := rfl
  have h2 : (nilNd.nrm true).emp = true := rfl
  unfold Rl.fit Rl.fitL Rl.fitR
  show (endsAt (nilNd.nrm false) true _ && endsAt (nilNd.nrm true) true _) = true
  unfold endsAt
  rw [h1, h2]
  simp
theorem says_behind (q : Rl → Bool) (r0 : Rl) (h : q r0 = true) : (l : List Rl) → saysB q (l ++ [r0]) = if firstI q l = -1 then r0.brk else saysB q l
  | [] => by simp [saysB, h, firstI]
  | r :: l => by
    have ih := says_behind q r0 h l
    simp only [List.cons_append, saysB, ih]
    cases hq : q r with
    | true => simp [firstI, hq]
    | false =>
      by_cases hf : firstI q l = -1
      · simp [firstI, hq, hf]
      · have hf2 : ¬ firstI q l + 1 = -1 := by
          rcases firstI_cases q l with ⟨h1, _⟩ | ⟨k, _, h1, _⟩
          · exact absurd h1 hf
          · omega
        simp [firstI, hq, hf, hf2]
/-- Two more rules, one behind the other. -/
theorem own_behind {w : World} {B : Nat} {ps : List (Rl × RlP)} {v : Value} {n : Nat} (hn : n = ps.length) (hr : ∀ x ∈ ps, RlAt w 12 x.1 x.2) (r : Rl) (q : RlP) (h0 : RlAt w 12 r q) (h : w.ownsRow B 35 8 v (n + 1) (flatU ps ++ (r.vals q).toList)) : OwnU w B v 12 (ps.map (fun x => x.1) ++ [r]) := by
  refine ⟨ps ++ [(r, q)], by simp, ?_, fun x hx => ?_⟩
  · rw [show (ps ++ [(r, q)]).length = n + 1 by simp [hn], show flatU (ps ++ [(r, q)]) = flatU ps ++ (r.vals q).toList by simp [flatU]]
    exact h
  · rcases List.mem_append.1 hx with hx | hx
    · exact hr x hx
    · rw [List.mem_singleton.1 hx]; exact h0
/-- What is told of all places, of no rules. -/
theorem bound_none (xs : List Int) (p : Nat) (hp : p ≤ xs.length) : boundAt [] xs p = decide (0 < xs.length) := by
  unfold boundAt
  split
  · rfl
  · rename_i h
    simp only [saysB]
    symm
    rw [decide_eq_true_eq]
    omega
theorem fit_fitI (r : Rl) (xs : List Int) (p : Nat) (hp : p ≤ xs.length) : fitI r xs (p : Int) = r.fit xs p := by
  unfold fitI
  rw [if_pos (by omega)]
  rfl
theorem rowB_at {w : World} {B : Nat} {v : Value} {bs : List Bool} (h : w.ownsRow B 4 1 v bs.length (bs.map Value.bool)) (hp : 0 < bs.length) : ∃ g c, v = .slice (some ⟨g, 0, none⟩) bs.length c ∧ ∀ i, i < bs.length → w.cell? ⟨g, i, none⟩ = some (.bool (bs.getD i false)) := by
  obtain ⟨a, c, rfl⟩ := own_sl1 h
  obtain ⟨g, rfl, hb, cur, hg, hc⟩ := own_cells1 h hp
  exact ⟨g, c, rfl, fun i hi => by rw [hc i hi]; simp [hi]⟩

set_option maxHeartbeats 16000000 in
theorem readingEnds_walk (D : Nat) (l : List Rl) (xs : List Int) (al a : Option Addr) (n c len cap : Nat) (w : World) (hrow : RowR w D al n l) (hn : n ≤ 140737488355328) (hrd : Rd .i64 w a len xs) (hcap : len ≤ cap) (hcm : cap ≤ 9223372036854775807) (hnone : a = none → cap = 0) :
    Calls Try.prog 5 #[.slice al n c, .slice a len cap] w fun e w' => e = .returned (.bool true) ∧ Below w.heap.size w w' := by
  obtain ⟨j0, ji, jz0, jz1, jz2⟩ := info_parts info_Ru
  have HJ : Hid (Try.prog.info? 35 = some j0 ∧ j0.zero = some (.agg #[.int .i64 0, .slice none 0 0, .slice none 0 0, .int .i64 0, .slice none 0 0, .slice none 0 0, .bool false, .bool false]) ∧ j0.size = 8 ∧ j0.bytes = 120) := ⟨ji, jz0, jz1, jz2⟩
  have HF : Hid (∀ W, Below w.heap.size w W → Calls Try.prog 12 #[.slice al n c, .slice a len cap] W (FewPost l xs W)) := fun W hW => few_any D l xs al a n c len cap W (hrow.later hW) hn (hrd.later hW) hcap hcm hnone
  clear ji jz0 jz1 jz2 hrow hn hrd hcap hcm hnone
  go_enter Try.func5, Try.ntmps5
  go_wp2_with fail
  refine (shown_any w).mono ?_
  rintro e w1 ⟨rfl, hb1⟩
  have B1 : Hid (Below w.heap.size w w1) := hb1
  clear hb1
  go_wp2_with fail
  refine (HF.out w1 B1.out).mono ?_
  rintro e w2 ⟨v1, a2, c2, rfl, hou, hox, hb2⟩
  have B2 : Hid (Below w.heap.size w w2) := B1.out.trans (hb2.mono B1.out.size)
  obtain ⟨L, hL⟩ : ∃ L, L = fewR l := ⟨_, rfl⟩
  obtain ⟨X, hX⟩ : ∃ X, X = xs.take 16 := ⟨_, rfl⟩
  obtain ⟨m, hm⟩ : ∃ m, m = X.length := ⟨_, rfl⟩
  have hL10 : L.length ≤ 10 := by rw [hL]; exact fewR_len l
  have hm16 : m ≤ 16 := by rw [hm, hX]; simp; omega
  rw [← hX, ← hm] at hox ⊢
  rw [← hL] at hou
  obtain ⟨a2', c2', he, hc2, hc2m, hrdx, hn2⟩ := rd_own2 hox
  cases he
  have HRX : Hid (Rd .i64 w2 a2 m X ∧ m ≤ c2 ∧ (a2 = none → c2 = 0)) := ⟨hrdx, hc2, hn2⟩
  have HOU : Hid (OwnU w2 w1.heap.size v1 12 L) := hou
  obtain ⟨al2, cl2, rfl, hrowl⟩ := hou.row
  have HRW : Hid (RowR w2 12 al2 L.length L) := hrowl
  obtain ⟨N, hN⟩ : ∃ N, N = L.length := ⟨_, rfl⟩
  rw [← hN] at HOU HRW ⊢
  have HN : Hid (N = L.length ∧ N ≤ 10 ∧ m = X.length) := ⟨hN, by omega, hm⟩
  have HBX : Hid (∀ (V : World) (Ls : List Rl) (av : Option Addr) (cv k : Nat), Below w2.heap.size w2 V → RowR V 12 av k Ls → k ≤ 1000 → Calls Try.prog 13 #[.slice av k cv, .slice a2 m c2] V fun e w' => ∃ g c, e = .returned (.slice (some ⟨g, 0, none⟩) (m + 1) c) ∧ (∀ i, i ≤ m → w'.cell? ⟨g, i, none⟩ = some (.bool (boundAt Ls X i))) ∧ Below V.heap.size V w') := by
    intro V Ls av cv k hV hR hk
    refine (boundaries_any 12 Ls X av a2 k cv m c2 V hR (by omega) (by omega) (HRX.out.1.later hV) HRX.out.2.1 HRX.out.2.2 (by omega)).mono ?_
    rintro e w' ⟨v, rfl, ho, hb⟩
    obtain ⟨g, c, rfl, hc⟩ := rowB_at ho (by rw [boundL_len]; omega)
    rw [boundL_len, ← hm] at hc ⊢
    exact ⟨g, c, rfl, fun i hi => by rw [hc i (by omega), boundL_get _ _ _ (by omega)], hb⟩
  have HWH : Hid (∀ (V : World) (p : Nat), Below w2.heap.size w2 V → p ≤ m → Calls Try.prog 18 #[.slice al2 N cl2, .slice a2 m c2, .int .i64 (p : Int)] V fun e w' => e = .returned (.int .i64 (firstI (fun r => r.fit X p) L)) ∧ Below V.heap.size V w') := by
    intro V p hV hp
    have := which_any 12 L X al2 a2 N cl2 m c2 (p : Int) V (HRW.out.later hV) (by omega) (by omega) (HRX.out.1.later hV) HRX.out.2.1 HRX.out.2.2 (by omega)
    rw [firstI_congr (fun r => fitI r X (p : Int)) (fun r => r.fit X p) L (fun r _ => fit_fitI r X p (by omega))] at this
    exact this
  have hmi : (m : Int) ≤ 16 := by omega
  have hmw : IntKind.i64.wrap ((m : Int) + 1) = (m : Int) + 1 := by rw [IntKind.wrap_i64]; omega
  have D0 : Hid (Below w2.heap.size w2 w2) := Below.refl _ _
  have HNIL : Hid (∀ V : World, RowR V 12 none 0 []) := fun V => ⟨rfl, fun i hi => by simp at hi⟩
  clear hou hox hb2 hL hX hm hL10 hc2 hc2m hrdx hn2 hrowl hN
  go_wp2_with fail
  refine (HBX.out w2 [] none 0 0 D0.out (HNIL.out w2) (by omega)).mono ?_
  rintro e w3 ⟨ga, ca, rfl, hca, hb3⟩
  have HCA : Hid (∀ i, i ≤ m → w3.cell? ⟨ga, i, none⟩ = some (.bool (boundAt [] X i))) := hca
  have D3 : Hid (Below w2.heap.size w2 w3) := hb3
  clear hca hb3
  -- the rules, and nothing behind them
  obtain ⟨ps, hps1, hps2, hps3⟩ := HOU.out.later D3.out
  have hpl : ps.length = N := by rw [HN.out.1, ← hps1]; simp
  rw [hpl] at hps2
  obtain ⟨ad, cd, hes, hsrc⟩ := src_own hps2 (flatU_cells ps)
  cases hes
  have HSRC : Hid (SrcAt w3 al2 N cl2 8 (flatU ps)) := hsrc
  have HO0 : Hid ((w3.alloc (.cells #[] 35)).ownsRow w3.heap.size 35 8 (.slice (some ⟨w3.heap.size, 0, none⟩) 0 0) 0 []) := World.ownsRow_made w3 #[] 0 (Nat.le_refl _) (by simp [maxLen]) rfl
  have HSRC1 : Hid (SrcAt (w3.alloc (.cells #[] 35)) al2 N cl2 8 (flatU ps)) := by
    obtain ⟨s1, s2, s3, s4⟩ := hsrc
    refine ⟨s1, s2, fun b hb j u hu => ?_, s4⟩
    exact upC ((Below.refl _ w3).alloc (Nat.le_refl _) _) (s3 b hb j u hu)
  have HPS : Hid (ps.length = N ∧ ps.map (fun x => x.1) = L ∧ ∀ x ∈ ps, RlAt w3 12 x.1 x.2) := ⟨hpl, hps1, hps3⟩
  have hN10 : N ≤ 10 := HN.out.2.1
  clear hps1 hps2 hps3 hpl hsrc
  go_wp2_with (first
    | (at_builtin; refine wpList_append_src rfl _ _ 22 rfl w3.heap.size 35 j0 _ 8 120 Try.underlying22 HJ.out.1 HJ.out.2.1 HJ.out.2.2.1 HJ.out.2.2.2 rfl (by decide) (.slice (some ⟨w3.heap.size, 0, none⟩) 0 0) 0 [] rfl HO0.out al2 N cl2 (flatU ps) rfl HSRC1.out (by unfold maxLen; omega) (by omega) (by simp) (fun v' w4 h1 h2 => ?_); obtain ⟨av, cv, rfl⟩ := own_sl1 h1; have HA4 : Hid (w4.ownsRow w3.heap.size 35 8 (.slice av N cv) N (flatU ps)) := (by rw [Nat.zero_add, List.nil_append] at h1; exact h1); have D4 : Hid (Below w3.heap.size w3 w4) := (((Below.refl _ w3).alloc (Nat.le_refl _) _).grown h2 (by simp) (fun k hk => by cases hk; exact Nat.le_refl _)); rw [Nat.zero_add]; clear h1 h2)
    | (at_builtin; refine wpList_append_lies _ rfl _ _ 22 rfl w3.heap.size 35 j0 _ 8 120 Try.underlying22 HJ.out.1 HJ.out.2.1 HJ.out.2.2.1 HJ.out.2.2.2 rfl (by decide) (.slice av N cv) N (flatU ps) rfl (own_alloc HA4.out _) ⟨w4.heap.size, 0, none⟩ 1 1 [.int .i64 0, .slice none 0 0, .slice none 0 0, .int .i64 0, .slice none 0 0, .slice none 0 0, .bool false, .bool false] rfl rfl (World.news_of_block (cs := #[.int .i64 0, .slice none 0 0, .slice none 0 0, .int .i64 0, .slice none 0 0, .slice none 0 0, .bool false, .bool false]) (t := 35) (fr := (0, 0)) (heap_alloc_new w4 _)) (by simp [Value.oneCell']) (by omega) (by unfold maxLen; omega) (by omega) (by have := D4.out.size; simp; omega) _ rfl (fun gz cz w5 q1 q2 q3 q4 => ?_); have HA5 : Hid (w5.ownsRow w3.heap.size 35 8 (.slice (some ⟨gz, 0, none⟩) (N + 1) cz) (N + 1) (flatU ps ++ (rule0.vals q00).toList)) := q1; have D5 : Hid (Below w3.heap.size w3 w5) := ((D4.out.alloc D4.out.size _).grown q2 (by have := D4.out.size; simp; omega) (fun k hk => (HA4.out.lt k hk).1)); clear q1 q2 q3 q4))
  have D52 : Hid (Below w2.heap.size w2 w5) := D3.out.trans (D5.out.mono D3.out.size)
  have HRZ : Hid (RowR w5 12 (some ⟨gz, 0, none⟩) (N + 1) (L ++ [rule0])) := by
    have h1 := own_behind HPS.out.1.symm (fun x hx => (HPS.out.2.2 x hx).later D5.out) rule0 q00 (rule0_at w5) HA5.out
    rw [HPS.out.2.1] at h1
    obtain ⟨a', c', he, hr⟩ := h1.row
    rw [show (L ++ [rule0]).length = N + 1 by simp [HN.out.1]] at he hr
    cases he
    exact hr
  refine (HBX.out w5 (L ++ [rule0]) (some ⟨gz, 0, none⟩) cz (N + 1) D52.out HRZ.out (by omega)).mono ?_
  rintro e w6 ⟨gb, cb, rfl, hcb, hb6⟩
  have D36 : Hid (Below w3.heap.size w3 w6) := D5.out.trans (hb6.mono D5.out.size)
  have D6 : Hid (Below w2.heap.size w2 w6) := D3.out.trans (D36.out.mono D3.out.size)
  have HCC : Hid (∀ (V : World) (k : Nat), Below w6.heap.size w6 V → k ≤ m → V.cell? ⟨ga, k, none⟩ = some (.bool (decide (0 < m))) ∧ V.cell? ⟨gb, k, none⟩ = some (.bool (boundAt (L ++ [rule0]) X k))) := by
    intro V k hV hk
    have t1 := HCA.out k hk
    rw [bound_none X k (by rw [← HN.out.2.2]; exact hk), ← HN.out.2.2] at t1
    have t2 := (D36.out.cell (World.block_lt_of_cell? _ _ t1)).trans t1
    exact ⟨(hV.cell (World.block_lt_of_cell? _ _ t2)).trans t2, (hV.cell (World.block_lt_of_cell? _ _ (hcb k hk))).trans (hcb k hk)⟩
  clear hcb hb6 HRZ HA5 HA4 D4 HSRC HSRC1 HO0 HCA HPS HBX
  go_wp2
  go_loopw [8] (fun x8 wr => ∃ k : Nat, k ≤ m + 1 ∧ x8 = .int .i64 k ∧ Below w6.heap.size w6 wr) (fun x8 _ => m + 1 - (intOf x8).toNat)
  case atStart => exact ⟨0, by omega, rfl, Below.refl _ _⟩
  case round =>
    obtain ⟨k, hk, hx8, hbl⟩ := hrel
    subst hx8
    have HBL : Hid (Below w6.heap.size w6 wr) := hbl
    have HB2 : Hid (Below w2.heap.size w2 wr) := D6.out.trans (hbl.mono D6.out.size)
    clear hbl
    by_cases hlt : k < m + 1
    · obtain ⟨t1, t2⟩ := HCC.out wr k HBL.out (by omega)
      have hki : (k : Int) < (m : Int) + 1 := by omega
      have hk0 : (0 : Int) ≤ (k : Int) := by omega
      obtain ⟨z, hz⟩ : ∃ z, z = decide ((0 : Int) < (m : Int)) := ⟨_, rfl⟩
      have hz1 : decide (0 < m) = z := by rw [hz, Bool.eq_iff_iff]; simp
      have hz2 : decide ((m : Int) > 0) = z := by rw [hz]
      rw [hz1] at t1
      by_cases hend : k = 0 ∨ k = m
      · have hb : boundAt (L ++ [rule0]) X k = z := by
          unfold boundAt
          rw [← HN.out.2.2, if_pos hend, hz1]
        rw [hb] at t2
        clear hb hz1
        by_cases h0 : k = 0
        · have hk2 : ((k : Int) == 0) = true := by rw [beq_iff_eq]; omega
          clear h0 hend
          go_wp2
          go_roundw
          case rel => exact ⟨k + 1, by omega, by go_num, HBL.out⟩
          case measure => first | (simp [intOf]; done) | (simp [intOf]; omega)
        · have hkl : k = m := by omega
          have hk2 : ((k : Int) == 0) = false := by rw [beq_eq_false_iff_ne]; omega
          subst hkl
          clear h0 hend
          go_wp2
          go_roundw
          case rel => exact ⟨k + 1, by omega, by go_num, HBL.out⟩
          case measure => first | (simp [intOf]; done) | (simp [intOf]; omega)
      · have hk2 : ((k : Int) == 0) = false := by rw [beq_eq_false_iff_ne]; omega
        have hk3 : ((k : Int) == (m : Int)) = false := by rw [beq_eq_false_iff_ne]; omega
        have hb : boundAt (L ++ [rule0]) X k = if firstI (fun r => r.fit X k) L = -1 then false else saysB (fun r => r.fit X k) L := by
          unfold boundAt
          rw [← HN.out.2.2, if_neg hend, says_behind _ rule0 (rule0_fit X k)]
          rfl
        have HWC : Hid (Calls Try.prog 18 #[.slice al2 N cl2, .slice a2 m c2, .int .i64 (k : Int)] wr fun e w' => e = .returned (.int .i64 (firstI (fun r => r.fit X k) L)) ∧ Below wr.heap.size wr w') := HWH.out wr k HB2.out (by omega)
        rw [hb] at t2
        have HTT : Hid (∀ V, Below wr.heap.size wr V → V.cell? ⟨gb, k, none⟩ = some (.bool (if firstI (fun r => r.fit X k) L = -1 then false else saysB (fun r => r.fit X k) L))) := fun V hV => (hV.cell (World.block_lt_of_cell? _ _ t2)).trans t2
        have hz3 : decide ((0 : Int) < (m : Int)) = z := hz.symm
        clear hb t2 hz hend
        go_wp2_with fail
        refine HWC.out.mono ?_
        rintro e w7 ⟨rfl, hb7⟩
        have t3 := HTT.out w7 hb7
        have HB7 : Hid (Below w6.heap.size w6 w7) := HBL.out.trans (hb7.mono HBL.out.size)
        have HB72 : Hid (Below w2.heap.size w2 w7) := HB2.out.trans (hb7.mono HB2.out.size)
        have HS := says_first (fun r => r.fit X k) L
        rcases firstI_cases (fun r => r.fit X k) L with ⟨h1, h2⟩ | ⟨j, hj, h1, _⟩
        · rw [h1, if_pos rfl] at t3
          rw [h1]
          clear h1 h2 HS hb7 t1
          go_wp2_with fail
          go_quiet (fail)
          go_wp2
          go_roundw
          case rel => exact ⟨k + 1, by omega, by go_num, below_drewN HB7.out _⟩
          case measure => first | (simp [intOf]; done) | (simp [intOf]; omega)
        · have h3 := HS.2 j hj h1
          rw [h1, if_neg (by omega), h3] at t3
          rw [h1]
          obtain ⟨b, off, q, rfl, _, _, _, _, _, _, _, t6, _⟩ := (HRW.out.later HB72.out).cells j hj
          obtain ⟨bv, hbv⟩ : ∃ bv, bv = L[j].brk := ⟨_, rfl⟩
          rw [← hbv] at t6 t3
          have hjN : (j : Int) < (N : Int) := by have := HN.out.1; omega
          have hj0 : (0 : Int) ≤ (j : Int) := by omega
          clear h1 h3 HS hb7 t1 hbv
          go_wp2_with fail
          go_quiet (fail)
          go_wp2
          go_roundw
          case rel => exact ⟨k + 1, by omega, by go_num, below_drewN HB7.out _⟩
          case measure => first | (simp [intOf]; done) | (simp [intOf]; omega)
    · obtain rfl : k = m + 1 := by omega
      go_wp2
      go_ret
      exact ⟨rfl, B2.out.trans (HB2.out.mono B2.out.size)⟩
end Go.Proofs.Ytghndpmengmeeaa
