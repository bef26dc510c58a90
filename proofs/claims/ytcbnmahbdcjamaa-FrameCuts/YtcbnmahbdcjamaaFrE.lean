/- The walks of frame's Right and Bytes. -/
import Derived.Test.YtcbnmahbdcjamaaFrD
namespace Go.Proofs.Ytcbnmahbdcjamaa
open Go.RowKit Go.Sort
set_option linter.unusedVariables false
set_option linter.unusedSimpArgs false

set_option maxRecDepth 100000 in
set_option maxHeartbeats 1000000 in
theorem frRight_any (f : Frm) (v : Value) (w : World) (hat : FrAt w v f) (h1 : f.vec.length ≤ 100000) (h2 : f.ops.length ≤ 100000) :
    Calls Try.prog 29 #[v] w fun e w' => e = .returned (.bool (frB f)) ∧ Below w.heap.size w w' := by
  obtain ⟨va, vn, vc, oa, on, oc, rfl, hre, hrp⟩ := hat
  have hvn := hre.1
  have hon := hrp.1
  have e0 : rpB f = rpN f.kind vn on f.next := by rw [← hvn, ← hon]; rfl
  have hR : frB f = (decide (0 ≤ f.fr) && decide (f.fr < 64) && rpN f.kind vn on f.next && vcB (-1) f.vec && f.ops.all opB) := by rw [← e0]; rfl
  have HP : Hid (∀ W : World, Calls Try.prog 71 #[frV f.kind f.fr va vn vc oa on oc f.next] W fun e w' => e = .returned (.bool (rpN f.kind vn on f.next)) ∧ Below W.heap.size W w') := fun W => rightParts_any _ _ _ _ _ _ _ _ _ W
  have HV : Hid (∀ W : World, Below w.heap.size w W → Calls Try.prog 72 #[.slice va vn vc] W fun e w' => e = .returned (.bool (vcB (-1) f.vec)) ∧ Gw W w') := fun W h => vector_any f.vec va vn vc W (hre.later h) (by omega)
  have HO : Hid (∀ W : World, Below w.heap.size w W → Calls Try.prog 73 #[.slice oa on oc, .func (.func 74) #[] #[]] W fun e w' => e = .returned (.bool (!(f.ops.all opB))) ∧ Below W.heap.size W w') := fun W h => containsF_any f.ops oa on oc W (hrp.later h) (by omega)
  obtain ⟨W1, hW1⟩ : ∃ W1, W1 = w.alloc (.cells #[.int .i64 f.kind, .int .i64 f.fr, .slice va vn vc, .slice oa on oc, .int .i64 f.next] 51) := ⟨_, rfl⟩
  have hb1 : Below w.heap.size w W1 := by rw [hW1]; exact (Below.refl _ w).alloc (Nat.le_refl _) _
  have HB1 : Hid (Below w.heap.size w W1) := hb1
  have hbx : W1.heap[w.heap.size]? = some (.cells #[.int .i64 f.kind, .int .i64 f.fr, .slice va vn vc, .slice oa on oc, .int .i64 f.next] 51) := by rw [hW1]; exact heap_alloc_new w _
  have HK : Hid (∀ W, Below W1.heap.size W1 W → W.cell? ⟨w.heap.size, 0, none⟩ = some (.int .i64 f.kind) ∧ W.cell? ⟨w.heap.size, 1, none⟩ = some (.int .i64 f.fr) ∧ W.cell? ⟨w.heap.size, 2, none⟩ = some (.slice va vn vc) ∧ W.cell? ⟨w.heap.size, 3, none⟩ = some (.slice oa on oc) ∧ W.cell? ⟨w.heap.size, 4, none⟩ = some (.int .i64 f.next)) := by
    intro W hW
    have hb := (hW.block w.heap.size (by rw [hW1]; simp)).trans hbx
    exact ⟨cell_of_row W _ 0 _ _ _ hb, cell_of_row W _ 1 _ _ _ hb, cell_of_row W _ 2 _ _ _ hb, cell_of_row W _ 3 _ _ _ hb, cell_of_row W _ 4 _ _ _ hb⟩
  obtain ⟨k0, k1, k2, k3, k4⟩ := HK.out W1 (Below.refl _ _)
  obtain ⟨X, hX⟩ : ∃ X, X = w.heap.size := ⟨_, rfl⟩
  rw [← hX] at HK k0 k1 k2 k3 k4
  have HX : Hid (X = w.heap.size) := hX
  generalize frB f = R at hR ⊢
  generalize rpN f.kind vn on f.next = z1 at HP hR
  generalize vcB (-1) f.vec = z2 at HV hR
  generalize f.ops.all opB = z3 at HO hR
  generalize f.kind = fk at *
  generalize f.fr = ff at *
  generalize f.next = fx at *
  clear hre hrp hb1 hbx hX hvn hon h1 h2 e0
  by_cases a1 : ff < 0
  · rw [decide_eq_false (show ¬ 0 ≤ ff by omega)] at hR
    simp only [Bool.false_and] at hR
    subst hR
    go_enter Try.func29, Try.ntmps29
    go_upto_region 1 with fail
    simp only [← hW1, ← HX.out]
    clear hW1
    go_wp2
    go_ret
    exact ⟨rfl, HB1.out⟩
  · rw [decide_eq_true (show 0 ≤ ff by omega)] at hR
    by_cases a2 : ff < 64
    · have a3 : ¬ 64 ≤ ff := by omega
      rw [decide_eq_true a2, Bool.true_and, Bool.true_and] at hR
      cases z1
      · simp only [Bool.false_and] at hR
        subst hR
        go_enter Try.func29, Try.ntmps29
        go_upto_region 1 with fail
        simp only [← hW1, ← HX.out]
        clear hW1
        go_wp2_with (go_at_call 71; refine (HP.out _).mono ?_; rintro e w2 ⟨rfl, hg⟩; have HG2 : Hid (Below W1.heap.size W1 w2) := hg; clear hg)
        go_ret
        exact ⟨rfl, HB1.out.trans (HG2.out.mono HB1.out.size)⟩
      · cases z2
        · simp only [Bool.false_and, Bool.and_false] at hR
          subst hR
          go_enter Try.func29, Try.ntmps29
          go_upto_region 1 with fail
          simp only [← hW1, ← HX.out]
          clear hW1
          go_wp2_with (first
            | (go_at_call 71; refine (HP.out _).mono ?_; rintro e w2 ⟨rfl, hg⟩; have HG2 : Hid (Below w.heap.size w w2) := HB1.out.trans (hg.mono HB1.out.size); obtain ⟨j0, j1, j2, j3, j4⟩ := HK.out w2 hg; clear hg)
            | (go_at_call 72; refine (HV.out _ HG2.out).mono ?_; rintro e w3 ⟨rfl, hg⟩; have HG3 : Hid (Below w.heap.size w w3) := HG2.out.trans (hg.below.mono HG2.out.size); clear hg))
          go_ret
          exact ⟨rfl, HG3.out⟩
        · simp only [Bool.true_and] at hR
          subst hR
          go_enter Try.func29, Try.ntmps29
          go_upto_region 1 with fail
          simp only [← hW1, ← HX.out]
          clear hW1
          go_wp2_with (first
            | (go_at_call 71; refine (HP.out _).mono ?_; rintro e w2 ⟨rfl, hg⟩; have HG2 : Hid (Below w.heap.size w w2) := HB1.out.trans (hg.mono HB1.out.size); have HH2 : Hid (Below W1.heap.size W1 w2) := hg; obtain ⟨j0, j1, j2, j3, j4⟩ := HK.out w2 hg; clear hg)
            | (go_at_call 72; refine (HV.out _ HG2.out).mono ?_; rintro e w3 ⟨rfl, hg⟩; have HG3 : Hid (Below w.heap.size w w3) := HG2.out.trans (hg.below.mono HG2.out.size); obtain ⟨j0, j1, j2, j3, j4⟩ := HK.out w3 (HH2.out.trans (hg.below.mono HH2.out.size)); clear hg)
            | (go_at_call 73; refine (HO.out _ HG3.out).mono ?_; rintro e w4 ⟨rfl, hg⟩; have HG4 : Hid (Below w.heap.size w w4) := HG3.out.trans (hg.mono HG3.out.size); clear hg))
          go_ret
          exact ⟨by simp, HG4.out⟩
    · have a3 : 64 ≤ ff := by omega
      rw [decide_eq_false a2] at hR
      simp only [Bool.false_and, Bool.and_false] at hR
      subst hR
      go_enter Try.func29, Try.ntmps29
      go_upto_region 1 with fail
      simp only [← hW1, ← HX.out]
      clear hW1
      go_wp2
      go_ret
      exact ⟨rfl, HB1.out⟩
theorem vcB_ok : (l : List (Int × Int)) → (a : Int) → vcB a l = true → ∀ e ∈ l, okI e.1 ∧ okI e.2
  | [], _, _ => fun e he => by cases he
  | x :: r, a, h => by
    rw [vcB] at h
    simp only [Bool.and_eq_true] at h
    obtain ⟨⟨⟨h1, h2⟩, h3⟩, h4⟩ := h
    intro e he
    rcases List.mem_cons.1 he with rfl | he
    · unfold auB belB at h2
      unfold cnB at h3
      simp at h2 h3
      exact ⟨⟨by omega, by omega⟩, by omega, by omega⟩
    · exact vcB_ok r _ h4 e he
/-- A frame that may be is one of numbers that can be laid. -/
theorem frB_ok (f : Frm) (h : frB f = true) (h1 : f.vec.length ≤ 100000) (h2 : f.ops.length ≤ 100000) : okF f := by
  unfold frB at h
  simp only [Bool.and_eq_true] at h
  obtain ⟨⟨⟨⟨a1, a2⟩, a3⟩, a4⟩, a5⟩ := h
  simp at a1 a2
  have hk : okI f.kind ∧ okI f.next := by
    unfold rpB at a3
    unfold okI
    by_cases k1 : f.kind = 1
    · rw [if_pos k1] at a3; simp at a3; omega
    · rw [if_neg k1] at a3
      by_cases k2 : f.kind = 2
      · rw [if_pos k2] at a3; simp at a3; omega
      · rw [if_neg k2] at a3
        by_cases k3 : f.kind = 3
        · rw [if_pos k3] at a3; simp at a3; omega
        · rw [if_neg k3] at a3; cases a3
  refine ⟨hk.1, ⟨a1, by omega⟩, by omega, vcB_ok _ _ a4, by omega, fun o ho => opB_ok o ?_, hk.2⟩
  rw [List.all_eq_true] at a5
  exact a5 o ho
theorem numN_len (f : Frm) : (numN f).length ≤ 5 + 2 * f.vec.length + 7 * f.ops.length := by
  rw [← num_all f, List.length_append]
  have := num2_len f f.ops.length
  simp only [List.length_cons, List.length_nil]
  omega
theorem bodyN_len (f : Frm) : (bodyN f).length ≤ 10 * (5 + 2 * f.vec.length + 7 * f.ops.length) := by
  have h1 := pks_most (numN f)
  have h2 := numN_len f
  show (pks (numN f)).length ≤ _
  omega
theorem bodyN_byt (f : Frm) (h : okF f) : Byt (bodyN f) := pks_byt _ fun v hv => by
  have := okF_rng f h v hv
  omega
/-- What Bytes leaves. -/
def BytQ (f : Frm) (w : World) (e : Ending) (w' : World) : Prop :=
  Below w.heap.size w w' ∧ (frB f = true → ∃ v', e = .returned (.tuple #[v', .int .i64 0]) ∧ w'.ownsRow w.heap.size 5 1 v' (bytesN f).length ((bytesN f).map (Value.int .u8))) ∧ (frB f = false → e = .returned (.tuple #[.slice none 0 0, .int .i64 1]))
set_option maxRecDepth 100000 in
set_option maxHeartbeats 1000000 in
theorem frBytes_any (f : Frm) (v : Value) (w : World) (hat : FrAt w v f) (h1 : f.vec.length ≤ 100000) (h2 : f.ops.length ≤ 100000) :
    Calls Try.prog 26 #[v] w fun e w' => BytQ f w e w' := by
  obtain ⟨va, vn, vc, oa, on, oc, hv, hre, hrp⟩ := hat
  have hat : FrAt w v f := ⟨va, vn, vc, oa, on, oc, hv, hre, hrp⟩
  have HR : Hid (∀ W : World, Below w.heap.size w W → Calls Try.prog 29 #[v] W fun e w' => e = .returned (.bool (frB f)) ∧ Below W.heap.size W w') := fun W h => frRight_any f v W (hat.later h) h1 h2
  have HF : Hid (frB f = true → ∀ W : World, Below w.heap.size w W → Calls Try.prog 68 #[v] W fun e w' => ∃ v', e = .returned v' ∧ w'.ownsRow W.heap.size 5 1 v' (bodyN f).length ((bodyN f).map (Value.int .u8)) ∧ Below W.heap.size W w') := fun hf W h => layFrame_any f v W (hat.later h) (frB_ok f hf h1 h2) h1 h2
  have HY : Hid (frB f = true → Byt (bodyN f)) := fun hf => bodyN_byt f (frB_ok f hf h1 h2)
  have HLN : Hid ((bodyN f).length ≤ 10000000) := by have := bodyN_len f; show _ ≤ _; omega
  subst hv
  obtain ⟨W1, hW1⟩ : ∃ W1, W1 = w.alloc (.cells #[.int .i64 f.kind, .int .i64 f.fr, .slice va vn vc, .slice oa on oc, .int .i64 f.next] 51) := ⟨_, rfl⟩
  have hb1 : Below w.heap.size w W1 := by rw [hW1]; exact (Below.refl _ w).alloc (Nat.le_refl _) _
  have HB1 : Hid (Below w.heap.size w W1) := hb1
  have hbx : W1.heap[w.heap.size]? = some (.cells #[.int .i64 f.kind, .int .i64 f.fr, .slice va vn vc, .slice oa on oc, .int .i64 f.next] 51) := by rw [hW1]; exact heap_alloc_new w _
  have HK : Hid (∀ W, Below W1.heap.size W1 W → W.cell? ⟨w.heap.size, 0, none⟩ = some (.int .i64 f.kind) ∧ W.cell? ⟨w.heap.size, 1, none⟩ = some (.int .i64 f.fr) ∧ W.cell? ⟨w.heap.size, 2, none⟩ = some (.slice va vn vc) ∧ W.cell? ⟨w.heap.size, 3, none⟩ = some (.slice oa on oc) ∧ W.cell? ⟨w.heap.size, 4, none⟩ = some (.int .i64 f.next)) := by
    intro W hW
    have hb := (hW.block w.heap.size (by rw [hW1]; simp)).trans hbx
    exact ⟨cell_of_row W _ 0 _ _ _ hb, cell_of_row W _ 1 _ _ _ hb, cell_of_row W _ 2 _ _ _ hb, cell_of_row W _ 3 _ _ _ hb, cell_of_row W _ 4 _ _ _ hb⟩
  obtain ⟨k0, k1, k2, k3, k4⟩ := HK.out W1 (Below.refl _ _)
  obtain ⟨X, hX⟩ : ∃ X, X = w.heap.size := ⟨_, rfl⟩
  rw [← hX] at HK k0 k1 k2 k3 k4
  have HX : Hid (X = w.heap.size) := hX
  obtain ⟨i0, hi, hz0, hz1, hz2⟩ := info_parts info_u8
  have kc := fun (w : World) (C : Array Value) (n c : Nat) => Lib.run_convert_bytes_const (P := Try.prog) w 53 5 C n c Try.underlying53 Try.underlying5
  clear hre hrp hb1 hbx hX hat h1 h2
  cases hz : frB f
  · rw [hz] at HR
    have HZ : Hid (frB f = false) := hz
    clear hz
    go_enter Try.func26, Try.ntmps26
    go_upto_region 1 with fail
    simp only [← hW1, ← HX.out]
    clear hW1
    go_wp2_with (go_at_call 29; refine (HR.out _ HB1.out).mono ?_; rintro e w2 ⟨rfl, hg⟩; have HG2 : Hid (Below W1.heap.size W1 w2) := hg; clear hg)
    go_ret2
    exact ⟨HB1.out.trans (HG2.out.mono HB1.out.size), (fun h => by rw [HZ.out] at h; cases h), fun _ => rfl⟩
  · rw [hz] at HR
    have HZ : Hid (frB f = true) := hz
    clear hz
    have HLE : Hid ((hdN (bodyN f)).length ≤ 20000000) := by
      have h3 := hdN_len (bodyN f)
      have h4 := pt_len (bodyN f)
      have h5 := pk_len ((bodyN f).length : Nat)
      have h6 := HLN.out
      show _ ≤ _
      omega
    have HBH : Hid (Byt (hdN (bodyN f))) := hdN_byt _ (HY.out HZ.out) (by have := HLN.out; omega)
    have HHL : Hid (2 + (pt (bodyN f)).length = (hdN (bodyN f)).length) := (hdN_len _).symm
    have HBF : Hid (bytesN f = hdN (bodyN f) ++ s4 (up 0 (hdN (bodyN f)))) := rfl
    have HPT : Hid ([70, 67] ++ pt (bodyN f) = hdN (bodyN f)) := rfl
    have HYB : Hid (Byt (bodyN f)) := HY.out HZ.out
    have HF' : Hid (∀ W : World, Below w.heap.size w W → Calls Try.prog 68 #[frV f.kind f.fr va vn vc oa on oc f.next] W fun e w' => ∃ v', e = .returned v' ∧ w'.ownsRow W.heap.size 5 1 v' (bodyN f).length ((bodyN f).map (Value.int .u8)) ∧ Below W.heap.size W w') := HF.out HZ.out
    clear HF HY
    generalize hHD : hdN (bodyN f) = HD at *
    generalize bodyN f = BD at *
    generalize hHL : HD.length = hl at *
    generalize hBL : BD.length = bl at *
    clear hHD
    go_enter Try.func26, Try.ntmps26
    go_upto_region 1 with fail
    simp only [← hW1, ← HX.out]
    clear hW1
    go_wp2_with (first
      | (go_at_call 29
         refine (HR.out _ HB1.out).mono ?_
         rintro e w2 ⟨rfl, hg⟩
         have HG2 : Hid (Below w.heap.size w w2) := HB1.out.trans (hg.mono HB1.out.size)
         have HH2 : Hid (Below W1.heap.size W1 w2) := hg
         have ha2 : Below w2.heap.size w2 (w2.alloc (.cells #[.int .u8 70, .int .u8 67] 5 (2, 3))) := (Below.refl _ w2).alloc (Nat.le_refl _) _
         have HA2 : Hid (Below w2.heap.size w2 (w2.alloc (.cells #[.int .u8 70, .int .u8 67] 5 (2, 3)))) := ha2
         obtain ⟨j0, j1, j2, j3, j4⟩ := HK.out (w2.alloc (.cells #[.int .u8 70, .int .u8 67] 5 (2, 3))) (hg.trans (ha2.mono hg.size))
         have HRL : Hid (Rd .u8 (w2.alloc (.cells #[.int .u8 70, .int .u8 67] 5 (2, 3))) (some ⟨w2.heap.size, 0, none⟩) 2 [70, 67]) := rd_mark w2 [70, 67] _ _ _ rfl _ rfl 2 rfl
         clear hg ha2)
      | (go_at_call 68
         refine (HF'.out _ (HG2.out.trans (HA2.out.mono HG2.out.size))).mono ?_
         rintro e w3 ⟨vb, rfl, ho, hb⟩
         have HB3 : Hid (Below w2.heap.size w2 w3) := HA2.out.trans (hb.mono HA2.out.size)
         have HRL3 : Hid (Rd .u8 w3 (some ⟨w2.heap.size, 0, none⟩) 2 [70, 67]) := HRL.out.later hb
         obtain ⟨a3, c3, rfl, _, _, hr3, _⟩ := rd_own2 ho
         have hcv := conv_str (cap := c3) hr3
         clear ho hb hr3)
      | (go_at_call 67
         refine (puttext_own (some ⟨w2.heap.size, 0, none⟩) 2 2 [70, 67] BD _ (by have := HLN.out; omega) HYB.out HRL3.out (fun h => by cases h) (by omega)).mono ?_
         rw [HPT.out, HHL.out]
         rintro e w4 ⟨hb, v4, rfl, ho⟩
         have HB4 : Hid (Below w.heap.size w w4) := HG2.out.trans ((HB3.out.trans (hb.mono HB3.out.size)).mono HG2.out.size)
         have HO4 : Hid (w4.ownsRow w.heap.size 5 1 v4 hl (HD.map (Value.int .u8))) := own_base ho (Nat.le_trans HG2.out.size HB3.out.size)
         obtain ⟨a4, c4, rfl, _, _, hr4, _⟩ := rd_own2 ho
         have HR4 : Hid (Rd .u8 w4 a4 hl HD) := hr4
         clear hb ho hr4)
      | (go_at_call 69
         refine (fsum_any HD a4 hl c4 _ HBH.out HR4.out (by have := HLE.out; omega)).mono ?_
         rintro e w5 ⟨g, hg, rfl, hb, hr⟩
         have HB5 : Hid (Below w4.heap.size w4 w5) := hb
         have HR5 : Hid (Rd .u8 w5 (some ⟨g, 0, none⟩) 4 (s4 (up 0 HD))) := hr
         have HO5 : Hid (w5.ownsRow w.heap.size 5 1 (.slice a4 hl c4) hl (HD.map (Value.int .u8))) := own_later HO4.out hb
         have HZ5 : Hid (w.heap.size ≤ w5.heap.size) := Nat.le_trans HB4.out.size hb.size
         clear hb hr hg)
      | (at_builtin; refine wpList_append_own _ rfl (.tmp 14) (.tmp 16) 53 rfl w.heap.size 5 i0 (.int .u8 0) 1 1 Try.underlying53 hi hz0 hz1 hz2 rfl (by decide) _ _ _ rfl HO5.out ⟨g, 0, none⟩ 4 4 ((s4 (up 0 HD)).map (Value.int .u8)) rfl rfl (rd_news HR5.out) ?hone ?h63 ?hby ?hbase ?_))
    case hone => simp [Value.oneCell']
    case h63 => have := HLE.out; unfold maxLen; omega
    case hby => have := HLE.out; omega
    case hbase => exact HZ5.out
    intro v6 w6 ho6 hg6 _
    have HB6 : Hid (Below w.heap.size w w6) := (HB4.out.trans (HB5.out.mono HB4.out.size)).grown hg6 HZ5.out (fun k hk => (HO5.out.lt k hk).1)
    have HO6 : Hid (w6.ownsRow w.heap.size 5 1 v6 (hl + 4) (HD.map (Value.int .u8) ++ (s4 (up 0 HD)).map (Value.int .u8))) := ho6
    clear ho6 hg6
    go_wp2
    go_ret2
    refine ⟨HB6.out, fun _ => ⟨v6, rfl, ?_⟩, fun h => by rw [HZ.out] at h; cases h⟩
    rw [HBF.out, List.map_append, List.length_append, hHL]
    exact HO6.out
end Go.Proofs.Ytcbnmahbdcjamaa
