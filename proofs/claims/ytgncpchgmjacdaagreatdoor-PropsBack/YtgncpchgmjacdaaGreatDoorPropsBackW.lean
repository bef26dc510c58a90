/- The walk of the statement PropsBack: what is written in lines is read, whatever stands between. -/
import Derived.Test.YtgncpchgmjacdaaGreatDoorPropsBm
import Derived.Test.YtgncpchgmjacdaaGreatDoorPropsDg
import Derived.Test.YtgncpchgmjacdaaGreatDoorPropsZ
import Derived.Test.YtgncpchgmjacdaaGreatDoorPropsSm
import Derived.Test.YtgncpchgmjacdaaGreatDoorPropsRl
namespace Go.Proofs.YtgncpchgmjacdaaGreatDoor
open Go.RowKit
set_option linter.unusedVariables false

theorem nmR_rng (l : List Rg) (h : ClAt l) : RgS l := fun r hr => nm_rng r.2.2 (h.2 r hr).2.1
theorem line_rng (x : Item) (hn : ∀ y ∈ x.nm, 0 ≤ y ∧ y ≤ 255) (ht : ∀ t, x.note = some t → ∀ y ∈ t, 0 ≤ y ∧ y ≤ 255) : ∀ y ∈ x.line, 0 ≤ y ∧ y ≤ 255 := by
  intro y hy
  unfold Item.line lineOf at hy
  rcases List.mem_append.1 hy with hy | hy
  · rcases List.mem_append.1 hy with hy | hy
    · exact hexn_rng _ _ y hy
    · rcases List.mem_append.1 hy with hy | hy
      · cases hs : x.second with
        | none => rw [hs] at hy; simp at hy
        | some p =>
          rw [hs] at hy
          simp only [List.mem_cons] at hy
          rcases hy with rfl | rfl | hy
          · omega
          · omega
          · exact hexn_rng _ _ y hy
      · rcases List.mem_append.1 hy with hy | hy
        · simp at hy; omega
        · exact hn y hy
  · cases hs : x.note with
    | none => rw [hs] at hy; simp at hy
    | some t =>
      rw [hs] at hy
      simp only [List.mem_cons] at hy
      rcases hy with rfl | rfl | hy
      · omega
      · omega
      · exact ht t hs y hy
theorem txt_rng (L : List Rg) (ns : List (List Int)) (h : ClAt L) (hn : Nms ns) : (k : Nat) → k ≤ L.length → ∀ y ∈ txt L ns k, 0 ≤ y ∧ y ≤ 255
  | 0, _ => by intro y hy; simp [txt, joinNl] at hy
  | k + 1, hk => by
    intro y hy
    rw [txt_step L ns k (by omega)] at hy
    rcases List.mem_append.1 hy with hy | hy
    · exact txt_rng L ns h hn k (by omega) y hy
    · rcases List.mem_append.1 hy with hy | hy
      · refine line_rng _ (nmR_rng L h _ (by simp [show k < L.length by omega])) (fun t ht => ?_) y hy
        have ht' : noteAt ns k = some t := ht
        unfold noteAt at ht'
        split at ht'
        · cases ht'
          intro y hy
          have h1 := List.mem_of_mem_take (List.mem_filter.1 hy).1
          rename_i hkn
          exact (hn (ns.getD k []) (by simp [hkn])).1 y h1
        · cases ht'
      · rw [List.mem_singleton.1 hy]; omega
theorem add_c (xs cs : List Int) (b : ByteArray) (hb : b = strOfNums cs) (h : xs.length + cs.length ≤ 100000000000) (W : World) : (Op.stringOp .add (strOfNums xs) b).run Tryz.prog W = .ok (.string (strOfNums (xs ++ cs))) W := by
  rw [hb]; exact add_str xs cs h W

set_option maxRecDepth 20000 in
set_option maxHeartbeats 16000000 in
theorem propsBack_walk (rs : List Rg) (ns : List (List Int)) (a : Option Addr) (len cap : Nat) (an : Option Addr) (ln capn : Nat) (w : World) (hrd : RdR w a len rs) (hrs : RgS rs) (hln : ∀ r ∈ rs, r.2.2.length ≤ 9223372036854775807) (hm : len ≤ 9223372036854775807)
    (hrn : RdS w an ln ns) (hns : Nms ns) (hmn : ln ≤ 9223372036854775807) (hg : Gl w) :
    Calls Tryz.prog 4 #[.slice a len cap, .slice an ln capn] w fun e w' => e = .returned (.bool true) ∧ Below w.heap.size w w' := by
  have HD : Hid (RdR w a len rs) := hrd
  have HRS : Hid (RgS rs) := hrs
  have HRN : Hid (RdS w an ln ns) := hrn
  have HNS : Hid (Nms ns) := hns
  have HLNS : Hid (ns.length = ln) := hrn.1
  have HG : Hid (Gl w) := hg
  have mixed : Tryz.prog.follows .mixedOrders = true := by kernel_rfl
  have hgd : ∀ (op : BinOp) (x y : Operand) (xs ys : Array Value) (W : World), (eqGuard op 39 x y (.agg xs) (.agg ys)).run Tryz.prog W = .ok () W := fun op x y xs ys W => run_eqGuard_agg W op 39 x y xs ys (by kernel_rfl)
  obtain ⟨L, hL⟩ : ∃ L, L = clR rs := ⟨_, rfl⟩
  have HCA : Hid (ClAt L ∧ L.length ≤ 40) := by rw [hL]; exact cl_all rs
  have HCLN : Hid (∀ W, Below w.heap.size w W → Calls Tryz.prog 18 #[.slice a len cap] W fun e w' => Below W.heap.size W w' ∧ ∃ v, e = .returned v ∧ w'.ownsRow W.heap.size 39 3 v L.length (flatR L)) := by
    intro W hW
    rw [hL]
    exact clean_any rs a len cap W (HD.out.later hW) HRS.out hln hm
  have HRG : Hid (RgS L) := nmR_rng L HCA.out.1
  clear hrd hrs hln hm hrn hns hg hL
  go_enter Tryz.func4, Tryz.ntmps4
  go_wp2_with fail
  refine (shown_any w HG.out).mono ?_
  rintro e w1 ⟨rfl, hb1⟩
  have HB1 : Hid (Below w.heap.size w w1) := hb1
  clear hb1
  go_wp2_with fail
  refine (HCLN.out w1 HB1.out).mono ?_
  rintro e w2 ⟨hb2, v, rfl, hown⟩
  obtain ⟨al, capl, rfl, hq1, hq2, hrl⟩ := own_rdR hown
  have HB2 : Hid (Below w.heap.size w w2) := HB1.out.trans (hb2.mono HB1.out.size)
  have HRL : Hid (RdR w2 al L.length L) := hrl
  obtain ⟨n, hn⟩ : ∃ n, n = L.length := ⟨_, rfl⟩
  have HNL : Hid (n = L.length) := hn
  have hn40 : (n : Int) ≤ 40 := by have := HCA.out.2; omega
  rw [← hn] at HRL ⊢
  have HRN2 : Hid (RdS w2 an ln ns) := HRN.out.later HB2.out
  clear hb2 hown hrl hn hq1 hq2
  go_wp2
  go_loopw [6, 7] (fun x6 x7 wr => ∃ k : Nat, k ≤ n ∧ x7 = .int .i64 k ∧ x6 = .string (strOfNums (txt L ns k)) ∧ Below w2.heap.size w2 wr) (fun _ x7 _ => n - (intOf x7).toNat)
  case atStart => exact ⟨0, by omega, rfl, rfl, Below.refl _ _⟩
  case round =>
    obtain ⟨k, hk, hx7, hx6, hbel⟩ := hrel
    subst hx7 hx6
    have HB : Hid (Below w2.heap.size w2 wr) := hbel
    clear hbel
    by_cases hlt : k < n
    · have hkl : k < L.length := by rw [← HNL.out]; exact hlt
      obtain ⟨b0, off, hab, c0, c1, c2⟩ := (HRL.out.later HB.out).at k hlt
      subst hab
      obtain ⟨x, hx⟩ : ∃ x, x = L.getD k (0, 0, []) := ⟨_, rfl⟩
      have HSTEP : Hid (txt L ns (k + 1) = txt L ns k ++ ((itOf x (noteAt ns k)).line ++ [10])) := by show _ = _; rw [hx]; exact txt_step L ns k hkl
      have hcl := HCA.out.1.2 x (by rw [hx]; simp [hkl])
      have htl := txt_len L ns HCA.out.1 k (by omega)
      have hHC : ∀ W, Below wr.heap.size wr W → W.cell? ⟨b0, off + k * 3, none⟩ = some (.int .i32 x.1) ∧ W.cell? ⟨b0, off + k * 3 + 1, none⟩ = some (.int .i32 x.2.1) ∧ W.cell? ⟨b0, off + k * 3 + 2, none⟩ = some (.string (strOfNums x.2.2)) := by
        intro W hW
        obtain ⟨b0', off', hab', d0, d1, d2⟩ := (HRL.out.later (HB.out.trans (hW.mono HB.out.size))).at k hlt
        cases hab'
        rw [← hx] at d0 d1 d2
        exact ⟨d0, d1, d2⟩
      obtain ⟨x1, x2, nm⟩ := x
      obtain ⟨va, hva⟩ : ∃ va : Nat, x1 = (va : Int) := ⟨x1.toNat, by have := hcl.1; unfold reR at this; simp at this; omega⟩
      obtain ⟨vb, hvb⟩ : ∃ vb : Nat, x2 = (vb : Int) := ⟨x2.toNat, by have := hcl.1; unfold reR at this; simp at this; omega⟩
      subst hva hvb
      have hab2 : va ≤ vb ∧ vb ≤ 1048830 := by obtain ⟨r1, r2, r3, r4⟩ := hcl; unfold reR at r1; simp at r1 r4; omega
      have HNMO : Hid (nmOk nm = true) := hcl.2.1
      have hnm20 : nm.length ≤ 20 := by have := hcl.2.1; unfold nmOk at this; simp at this; omega
      obtain ⟨T0, hT0⟩ : ∃ T0, T0 = txt L ns k := ⟨_, rfl⟩
      rw [← hT0] at HSTEP htl
      have HT0L : Hid (T0.length ≤ 2440) := by show T0.length ≤ 2440; omega
      obtain ⟨s0, hs0⟩ : ∃ s0, s0 = strOfNums T0 := ⟨_, rfl⟩
      rw [← hT0, ← hs0]
      obtain ⟨sx, hsx⟩ : ∃ sx, sx = strOfNums nm := ⟨_, rfl⟩
      simp only [] at hHC
      rw [← hsx] at hHC
      have HHC : Hid (∀ W, Below wr.heap.size wr W → W.cell? ⟨b0, off + k * 3, none⟩ = some (.int .i32 va) ∧ W.cell? ⟨b0, off + k * 3 + 1, none⟩ = some (.int .i32 vb) ∧ W.cell? ⟨b0, off + k * 3 + 2, none⟩ = some (.string sx)) := hHC
      obtain ⟨Da, hDa⟩ : ∃ Da, Da = hexn (dgn va) va := ⟨_, rfl⟩
      obtain ⟨sda, hsda⟩ : ∃ s, s = strOfNums Da := ⟨_, rfl⟩
      have HDA : Hid (∀ W : World, Calls Tryz.prog 19 #[.int .i64 va] W fun e w' => e = .returned (.string sda) ∧ w' = W) := by intro W; rw [hsda, hDa]; exact digits_any va (by omega) W
      obtain ⟨Db, hDb⟩ : ∃ Db, Db = hexn (dgn vb) vb := ⟨_, rfl⟩
      obtain ⟨sdb, hsdb⟩ : ∃ s, s = strOfNums Db := ⟨_, rfl⟩
      have HDB : Hid (∀ W : World, Calls Tryz.prog 19 #[.int .i64 vb] W fun e w' => e = .returned (.string sdb) ∧ w' = W) := by intro W; rw [hsdb, hDb]; exact digits_any vb (by omega) W
      have hdl : Da.length ≤ 6 ∧ Db.length ≤ 6 := by rw [hDa, hDb, hexn_len, hexn_len]; exact ⟨(dgn_fits va (by omega)).2.1, (dgn_fits vb (by omega)).2.1⟩
      have hva' : (va : Int) ≤ 1048830 := by omega
      have hvb' : (vb : Int) ≤ 1048830 := by omega
      have HAB : Hid (va ≤ vb) := hab2.1
      clear c0 c1 c2 hx hcl hHC htl hab2
      by_cases hab3 : va = vb
      · subst hab3
        obtain ⟨S3, hS3⟩ : ∃ S3, S3 = T0 ++ Da := ⟨_, rfl⟩
        obtain ⟨s3, hs3⟩ : ∃ s, s = strOfNums S3 := ⟨_, rfl⟩
        have hadd1 : ∀ W, (Op.stringOp .add s0 sda).run Tryz.prog W = .ok (.string s3) W := by rw [hs0, hsda, hs3, hS3]; exact add_str T0 Da (by have := HT0L.out; omega)
        have hS3l : S3.length ≤ 2460 := by rw [hS3]; have := HT0L.out; simp; omega
        have HLIN : Hid (T0 ++ (itOf ((va : Int), (va : Int), nm) none).line = S3 ++ [32, 9, 59, 32] ++ nm) := by show _ = _; rw [line_none va va nm rfl, hS3, ← hDa]; simp
        have hne : ((va : Int) != (va : Int)) = false := by simp
        obtain ⟨S4, hS4⟩ : ∃ S4, S4 = S3 ++ [32, 9, 59, 32] := ⟨_, rfl⟩
        obtain ⟨s4, hs4⟩ : ∃ s, s = strOfNums S4 := ⟨_, rfl⟩
        obtain ⟨S5, hS5⟩ : ∃ S5, S5 = S4 ++ nm := ⟨_, rfl⟩
        obtain ⟨s5, hs5⟩ : ∃ s, s = strOfNums S5 := ⟨_, rfl⟩
        have hadd4 : ∀ W, (Op.stringOp .add s3 ⟨#[32, 9, 59, 32]⟩).run Tryz.prog W = .ok (.string s4) W := by rw [hs3, hs4, hS4]; exact add_c S3 [32, 9, 59, 32] _ (by decide) (by simp; omega)
        have hadd5 : ∀ W, (Op.stringOp .add s4 sx).run Tryz.prog W = .ok (.string s5) W := by rw [hs4, hs5, hS5, hsx]; exact add_str S4 nm (by rw [hS4]; simp; omega)
        have HS5 : Hid (T0 ++ (itOf ((va : Int), (va : Int), nm) none).line = S5) := by show _ = _; rw [HLIN.out, hS5, hS4]
        have HS5L : Hid (S5.length ≤ 2500) := by show S5.length ≤ _; rw [hS5, hS4]; simp; omega
        have HS5S : Hid (s5 = strOfNums S5) := hs5
        clear hS3 hs3 hS4 hs4 hS5 hs5 hS3l hs0 hsda hDa hsdb hDb hsx hT0
        obtain ⟨c0, c1, c2⟩ := HHC.out wr (Below.refl _ _)
        go_upto_region 8 with (first | (go_at_call 19; refine (HDA.out _).mono ?_; rintro e w' ⟨rfl, hw'⟩; obtain rfl : wr = w' := hw'.symm))
        go_quiet (fail)
        clear c0 c1 c2
        obtain ⟨c0, c1, c2⟩ := HHC.out (wr.drewN nq) (below_drewN wr nq)
        have HBQ : Hid (Below w2.heap.size w2 (wr.drewN nq)) := HB.out.trans ((below_drewN wr nq).mono HB.out.size)
        generalize wr.drewN nq = wq at HBQ c0 c1 c2 ⊢
        by_cases hno : k < ln
        · have hkn : k < ns.length := by rw [HLNS.out]; exact hno
          obtain ⟨z, hz⟩ : ∃ z, z = ns.getD k [] := ⟨_, rfl⟩
          have hzn := HNS.out z (by rw [hz]; simp [hkn])
          have HNT : Hid (noteAt ns k = some (ntF (z.take 20))) := by show _ = _; unfold noteAt; rw [if_pos hkn, ← hz]
          obtain ⟨bn, offn, hbn, hcn⟩ := (HRN2.out.later HBQ.out).2 (by omega)
          subst hbn
          have e0 := hcn k hno
          rw [← hz] at e0
          obtain ⟨sz, hsz⟩ : ∃ s, s = strOfNums z := ⟨_, rfl⟩
          rw [← hsz] at e0
          obtain ⟨lz, hlz⟩ : ∃ l, l = z.length := ⟨_, rfl⟩
          have hszl : sz.size = lz := by rw [hsz, hlz]; exact strOfNums_size z
          have hlz63 : lz ≤ 9223372036854775807 := by rw [hlz]; exact hzn.2
          obtain ⟨m, hm⟩ : ∃ m, m = min lz 20 := ⟨_, rfl⟩
          have hmin := min_run lz m 20 (by omega)
          obtain ⟨Z, hZ⟩ : ∃ Z, Z = z.take m := ⟨_, rfl⟩
          have HZE : Hid (Z = z.take 20) := by
            show Z = _
            rw [hZ, hm, hlz]
            rcases Nat.le_total z.length 20 with h | h
            · rw [Nat.min_eq_left h, List.take_length, List.take_of_length_le h]
            · rw [Nat.min_eq_right h]
          obtain ⟨sZ, hsZ⟩ : ∃ s, s = strOfNums Z := ⟨_, rfl⟩
          have hcutZ : ∀ W, (Instr.slice 9 (.string sz) none (some (.int .i64 m)) none).run Tryz.prog W = .ok (.string sZ) W := by rw [hsz, hsZ, hZ]; exact str_take z m (by omega)
          have hZl : Z.length = m := by rw [hZ, List.length_take]; omega
          have HZR : Hid (∀ y ∈ Z, 0 ≤ y ∧ y ≤ 255) := fun y hy => hzn.1 y (by rw [hZ] at hy; exact List.mem_of_mem_take hy)
          have hsZl : sZ.size = m := by rw [hsZ, ← hZl]; exact strOfNums_size Z
          have hm20 : m ≤ 20 := by omega
          have HSZ : Hid (sZ = strOfNums Z) := hsZ
          have HZL : Hid (Z.length = m) := hZl
          obtain ⟨s6, hs6⟩ : ∃ s, s = strOfNums (S5 ++ [32, 35]) := ⟨_, rfl⟩
          have hadd6 : ∀ W, (Op.stringOp .add s5 ⟨#[32, 35]⟩).run Tryz.prog W = .ok (.string s6) W := by rw [HS5S.out, hs6]; exact add_c S5 [32, 35] _ (by decide) (by have := HS5L.out; simp; omega)
          have HS6 : Hid (s6 = strOfNums (S5 ++ [32, 35])) := hs6
          have HXZ : Hid (∀ i : Nat, i < m → ∀ W : World, (Instr.index 9 (.string sZ) (.int .i64 i)).run Tryz.prog W = .ok (.int .u8 (Z.getD i 0)) W) := fun i hi W => by rw [HSZ.out]; exact str_at Z i (by rw [HZL.out]; exact hi) HZR.out W
          clear hcn hz hsz hlz hm hZ hsZ hs6 hzn hkn hZl
          go_upto_region 12 with fail
          go_quiet (fail)
          clear c0 c1 c2 e0
          have HBZ : Hid (Below w2.heap.size w2 (wq.drewN nq)) := HBQ.out.trans ((below_drewN wq nq).mono HBQ.out.size)
          generalize wq.drewN nq = wz at HBZ ⊢
          go_wp2
          go_loop [6, 9] (fun x6 x9 => ∃ i : Nat, i ≤ m ∧ x9 = .int .i64 i ∧ x6 = .string (strOfNums (S5 ++ [32, 35] ++ ntF (Z.take i)))) (fun _ x9 => m - (intOf x9).toNat)
          case atStart => exact ⟨0, by omega, rfl, by rw [HS6.out]; simp [ntF]⟩
          case round =>
            obtain ⟨i, hi, hx9, hx6⟩ := hrel
            subst hx9 hx6
            obtain ⟨Y, hY⟩ : ∃ Y, Y = S5 ++ [32, 35] ++ ntF (Z.take i) := ⟨_, rfl⟩
            have HYL : Hid (Y.length ≤ 2530) := by show Y.length ≤ _; rw [hY]; have h1 := HS5L.out; have h2 : (ntF (Z.take i)).length ≤ (Z.take i).length := List.length_filter_le _ _; simp at h2 ⊢; omega
            rw [← hY]
            obtain ⟨sy, hsy⟩ : ∃ s, s = strOfNums Y := ⟨_, rfl⟩
            rw [← hsy]
            have HSY : Hid (sy = strOfNums Y) := hsy
            have HY : Hid (Y = S5 ++ [32, 35] ++ ntF (Z.take i)) := hY
            clear hY hsy
            by_cases hiz : i < m
            · have hix := HXZ.out i hiz
              obtain ⟨y, hyd⟩ : ∃ y, y = Z.getD i 0 := ⟨_, rfl⟩
              rw [← hyd] at hix
              have HST := ntF_step Z i (by rw [HZL.out]; exact hiz)
              rw [← hyd] at HST
              by_cases h10 : y = 10
              · have HNX : Hid (Y = S5 ++ [32, 35] ++ ntF (Z.take (i + 1))) := by show _ = _; rw [HST, if_pos h10]; exact HY.out
                clear HST hyd
                go_wp2
                go_round
                case rel => exact ⟨i + 1, by omega, by go_num, by rw [← HNX.out, ← HSY.out]⟩
                case measure => simp [intOf]; omega
              · obtain ⟨sc, hsc⟩ : ∃ s, s = strOfNums [y] := ⟨_, rfl⟩
                have hcuty : ∀ W, (Instr.slice 9 (.string sZ) (some (.int .i64 i)) (some (.int .i64 ((i : Int) + 1))) none).run Tryz.prog W = .ok (.string sc) W := by
                  intro W
                  rw [HSZ.out, hsc, show ((i : Int) + 1) = ((i + 1 : Nat) : Int) by omega]
                  have := str_mid Z i (i + 1) (by omega) (by rw [HZL.out]; omega) W
                  rw [this, take_s Z i (by rw [HZL.out]; exact hiz), List.drop_append_of_le_length (by simp; have := HZL.out; omega), List.drop_of_length_le (by simp; omega), ← hyd]
                  rfl
                obtain ⟨sw, hsw⟩ : ∃ s, s = strOfNums (Y ++ [y]) := ⟨_, rfl⟩
                have haddy : ∀ W, (Op.stringOp .add sy sc).run Tryz.prog W = .ok (.string sw) W := by rw [HSY.out, hsc, hsw]; exact add_str Y [y] (by have := HYL.out; simp; omega)
                have HSW : Hid (sw = strOfNums (S5 ++ [32, 35] ++ ntF (Z.take (i + 1)))) := by show _ = _; rw [hsw, HST, if_neg h10, HY.out]; simp
                have hw1 : IntKind.i64.wrap ((i : Int) + 1) = (i : Int) + 1 := by rw [IntKind.wrap_i64]; omega
                clear HST hyd hsc hsw
                go_wp2
                go_round
                case rel => exact ⟨i + 1, by omega, by go_num, by rw [← HSW.out]⟩
                case measure => simp [intOf]; omega
            · obtain rfl : i = m := by omega
              obtain ⟨s7, hs7⟩ : ∃ s, s = strOfNums (txt L ns (k + 1)) := ⟨_, rfl⟩
              have hadd7 : ∀ W, (Op.stringOp .add sy ⟨#[10]⟩).run Tryz.prog W = .ok (.string s7) W := by
                have e : txt L ns (k + 1) = Y ++ [10] := by rw [HSTEP.out, HNT.out, line_note, HY.out, ← HS5.out, ← HZE.out, List.take_of_length_le (by rw [HZL.out]; exact Nat.le_refl _)]; simp
                rw [HSY.out, hs7, e]
                exact add_c Y [10] _ (by decide) (by have := HYL.out; simp; omega)
              have HS7 : Hid (s7 = strOfNums (txt L ns (k + 1))) := hs7
              clear hs7
              go_wp2
              go_roundw
              case rel => exact ⟨k + 1, by omega, by go_num, by rw [← HS7.out], HBZ.out⟩
              case measure => simp [intOf]; omega
        · have HNT : Hid (noteAt ns k = none) := by show _ = _; unfold noteAt; rw [if_neg (by rw [HLNS.out]; exact hno)]
          obtain ⟨s7, hs7⟩ : ∃ s, s = strOfNums (txt L ns (k + 1)) := ⟨_, rfl⟩
          have hadd7 : ∀ W, (Op.stringOp .add s5 ⟨#[10]⟩).run Tryz.prog W = .ok (.string s7) W := by
            have e : txt L ns (k + 1) = S5 ++ [10] := by rw [HSTEP.out, HNT.out, ← HS5.out]; simp
            rw [HS5S.out, hs7, e]
            exact add_c S5 [10] _ (by decide) (by have := HS5L.out; simp; omega)
          have HS7 : Hid (s7 = strOfNums (txt L ns (k + 1))) := hs7
          clear hs7
          go_wp2
          go_roundw
          case rel => exact ⟨k + 1, by omega, by go_num, by rw [← HS7.out], HBQ.out⟩
          case measure => simp [intOf]; omega
      · obtain ⟨S1, hS1⟩ : ∃ S1, S1 = T0 ++ Da := ⟨_, rfl⟩
        obtain ⟨s1, hs1⟩ : ∃ s, s = strOfNums S1 := ⟨_, rfl⟩
        obtain ⟨S2, hS2⟩ : ∃ S2, S2 = S1 ++ [46, 46] := ⟨_, rfl⟩
        obtain ⟨s2, hs2⟩ : ∃ s, s = strOfNums S2 := ⟨_, rfl⟩
        obtain ⟨S3, hS3⟩ : ∃ S3, S3 = S2 ++ Db := ⟨_, rfl⟩
        obtain ⟨s3, hs3⟩ : ∃ s, s = strOfNums S3 := ⟨_, rfl⟩
        have hadd1 : ∀ W, (Op.stringOp .add s0 sda).run Tryz.prog W = .ok (.string s1) W := by rw [hs0, hsda, hs1, hS1]; exact add_str T0 Da (by have := HT0L.out; omega)
        have hadd2 : ∀ W, (Op.stringOp .add s1 ⟨#[46, 46]⟩).run Tryz.prog W = .ok (.string s2) W := by rw [hs1, hs2, hS2]; exact add_c S1 [46, 46] _ (by decide) (by rw [hS1]; have := HT0L.out; simp; omega)
        have hadd3 : ∀ W, (Op.stringOp .add s2 sdb).run Tryz.prog W = .ok (.string s3) W := by rw [hs2, hs3, hS3, hsdb]; exact add_str S2 Db (by rw [hS2, hS1]; have := HT0L.out; simp; omega)
        have hS3l : S3.length ≤ 2460 := by rw [hS3, hS2, hS1]; have := HT0L.out; simp; omega
        have HLIN : Hid (T0 ++ (itOf ((va : Int), (vb : Int), nm) none).line = S3 ++ [32, 9, 59, 32] ++ nm) := by show _ = _; rw [line_two va vb nm hab3, hS3, hS2, hS1, ← hDa, ← hDb]; simp
        have hne : ((vb : Int) != (va : Int)) = true := by simp; omega
        have hne2 : ¬ (vb : Int) = (va : Int) := by omega
        obtain ⟨S4, hS4⟩ : ∃ S4, S4 = S3 ++ [32, 9, 59, 32] := ⟨_, rfl⟩
        obtain ⟨s4, hs4⟩ : ∃ s, s = strOfNums S4 := ⟨_, rfl⟩
        obtain ⟨S5, hS5⟩ : ∃ S5, S5 = S4 ++ nm := ⟨_, rfl⟩
        obtain ⟨s5, hs5⟩ : ∃ s, s = strOfNums S5 := ⟨_, rfl⟩
        have hadd4 : ∀ W, (Op.stringOp .add s3 ⟨#[32, 9, 59, 32]⟩).run Tryz.prog W = .ok (.string s4) W := by rw [hs3, hs4, hS4]; exact add_c S3 [32, 9, 59, 32] _ (by decide) (by simp; omega)
        have hadd5 : ∀ W, (Op.stringOp .add s4 sx).run Tryz.prog W = .ok (.string s5) W := by rw [hs4, hs5, hS5, hsx]; exact add_str S4 nm (by rw [hS4]; simp; omega)
        have HS5 : Hid (T0 ++ (itOf ((va : Int), (vb : Int), nm) none).line = S5) := by show _ = _; rw [HLIN.out, hS5, hS4]
        have HS5L : Hid (S5.length ≤ 2500) := by show S5.length ≤ _; rw [hS5, hS4]; simp; omega
        have HS5S : Hid (s5 = strOfNums S5) := hs5
        clear hS3 hs3 hS4 hs4 hS5 hs5 hS3l hs0 hsda hDa hsdb hDb hsx hT0 hS1 hs1 hS2 hs2
        obtain ⟨c0, c1, c2⟩ := HHC.out wr (Below.refl _ _)
        go_upto_region 8 with (first | (go_at_call 19; refine (HDA.out _).mono ?_; rintro e w' ⟨rfl, hw'⟩; obtain rfl : wr = w' := hw'.symm))
        go_quiet (fail)
        clear c0 c1 c2
        obtain ⟨c0, c1, c2⟩ := HHC.out (wr.drewN nq) (below_drewN wr nq)
        have HBQ : Hid (Below w2.heap.size w2 (wr.drewN nq)) := HB.out.trans ((below_drewN wr nq).mono HB.out.size)
        generalize wr.drewN nq = wq at HBQ c0 c1 c2 ⊢
        by_cases hno : k < ln
        · have hkn : k < ns.length := by rw [HLNS.out]; exact hno
          obtain ⟨z, hz⟩ : ∃ z, z = ns.getD k [] := ⟨_, rfl⟩
          have hzn := HNS.out z (by rw [hz]; simp [hkn])
          have HNT : Hid (noteAt ns k = some (ntF (z.take 20))) := by show _ = _; unfold noteAt; rw [if_pos hkn, ← hz]
          obtain ⟨bn, offn, hbn, hcn⟩ := (HRN2.out.later HBQ.out).2 (by omega)
          subst hbn
          have e0 := hcn k hno
          rw [← hz] at e0
          obtain ⟨sz, hsz⟩ : ∃ s, s = strOfNums z := ⟨_, rfl⟩
          rw [← hsz] at e0
          obtain ⟨lz, hlz⟩ : ∃ l, l = z.length := ⟨_, rfl⟩
          have hszl : sz.size = lz := by rw [hsz, hlz]; exact strOfNums_size z
          have hlz63 : lz ≤ 9223372036854775807 := by rw [hlz]; exact hzn.2
          obtain ⟨m, hm⟩ : ∃ m, m = min lz 20 := ⟨_, rfl⟩
          have hmin := min_run lz m 20 (by omega)
          obtain ⟨Z, hZ⟩ : ∃ Z, Z = z.take m := ⟨_, rfl⟩
          have HZE : Hid (Z = z.take 20) := by
            show Z = _
            rw [hZ, hm, hlz]
            rcases Nat.le_total z.length 20 with h | h
            · rw [Nat.min_eq_left h, List.take_length, List.take_of_length_le h]
            · rw [Nat.min_eq_right h]
          obtain ⟨sZ, hsZ⟩ : ∃ s, s = strOfNums Z := ⟨_, rfl⟩
          have hcutZ : ∀ W, (Instr.slice 9 (.string sz) none (some (.int .i64 m)) none).run Tryz.prog W = .ok (.string sZ) W := by rw [hsz, hsZ, hZ]; exact str_take z m (by omega)
          have hZl : Z.length = m := by rw [hZ, List.length_take]; omega
          have HZR : Hid (∀ y ∈ Z, 0 ≤ y ∧ y ≤ 255) := fun y hy => hzn.1 y (by rw [hZ] at hy; exact List.mem_of_mem_take hy)
          have hsZl : sZ.size = m := by rw [hsZ, ← hZl]; exact strOfNums_size Z
          have hm20 : m ≤ 20 := by omega
          have HSZ : Hid (sZ = strOfNums Z) := hsZ
          have HZL : Hid (Z.length = m) := hZl
          obtain ⟨s6, hs6⟩ : ∃ s, s = strOfNums (S5 ++ [32, 35]) := ⟨_, rfl⟩
          have hadd6 : ∀ W, (Op.stringOp .add s5 ⟨#[32, 35]⟩).run Tryz.prog W = .ok (.string s6) W := by rw [HS5S.out, hs6]; exact add_c S5 [32, 35] _ (by decide) (by have := HS5L.out; simp; omega)
          have HS6 : Hid (s6 = strOfNums (S5 ++ [32, 35])) := hs6
          have HXZ : Hid (∀ i : Nat, i < m → ∀ W : World, (Instr.index 9 (.string sZ) (.int .i64 i)).run Tryz.prog W = .ok (.int .u8 (Z.getD i 0)) W) := fun i hi W => by rw [HSZ.out]; exact str_at Z i (by rw [HZL.out]; exact hi) HZR.out W
          clear hcn hz hsz hlz hm hZ hsZ hs6 hzn hkn hZl
          go_upto_region 12 with (first | (go_at_call 19; refine (HDB.out _).mono ?_; rintro e w' ⟨rfl, hw'⟩; obtain rfl : wq = w' := hw'.symm))
          go_quiet (fail)
          clear c0 c1 c2 e0
          have HBZ : Hid (Below w2.heap.size w2 (wq.drewN nq)) := HBQ.out.trans ((below_drewN wq nq).mono HBQ.out.size)
          generalize wq.drewN nq = wz at HBZ ⊢
          go_wp2
          go_loop [6, 9] (fun x6 x9 => ∃ i : Nat, i ≤ m ∧ x9 = .int .i64 i ∧ x6 = .string (strOfNums (S5 ++ [32, 35] ++ ntF (Z.take i)))) (fun _ x9 => m - (intOf x9).toNat)
          case atStart => exact ⟨0, by omega, rfl, by rw [HS6.out]; simp [ntF]⟩
          case round =>
            obtain ⟨i, hi, hx9, hx6⟩ := hrel
            subst hx9 hx6
            obtain ⟨Y, hY⟩ : ∃ Y, Y = S5 ++ [32, 35] ++ ntF (Z.take i) := ⟨_, rfl⟩
            have HYL : Hid (Y.length ≤ 2530) := by show Y.length ≤ _; rw [hY]; have h1 := HS5L.out; have h2 : (ntF (Z.take i)).length ≤ (Z.take i).length := List.length_filter_le _ _; simp at h2 ⊢; omega
            rw [← hY]
            obtain ⟨sy, hsy⟩ : ∃ s, s = strOfNums Y := ⟨_, rfl⟩
            rw [← hsy]
            have HSY : Hid (sy = strOfNums Y) := hsy
            have HY : Hid (Y = S5 ++ [32, 35] ++ ntF (Z.take i)) := hY
            clear hY hsy
            by_cases hiz : i < m
            · have hix := HXZ.out i hiz
              obtain ⟨y, hyd⟩ : ∃ y, y = Z.getD i 0 := ⟨_, rfl⟩
              rw [← hyd] at hix
              have HST := ntF_step Z i (by rw [HZL.out]; exact hiz)
              rw [← hyd] at HST
              by_cases h10 : y = 10
              · have HNX : Hid (Y = S5 ++ [32, 35] ++ ntF (Z.take (i + 1))) := by show _ = _; rw [HST, if_pos h10]; exact HY.out
                clear HST hyd
                go_wp2
                go_round
                case rel => exact ⟨i + 1, by omega, by go_num, by rw [← HNX.out, ← HSY.out]⟩
                case measure => simp [intOf]; omega
              · obtain ⟨sc, hsc⟩ : ∃ s, s = strOfNums [y] := ⟨_, rfl⟩
                have hcuty : ∀ W, (Instr.slice 9 (.string sZ) (some (.int .i64 i)) (some (.int .i64 ((i : Int) + 1))) none).run Tryz.prog W = .ok (.string sc) W := by
                  intro W
                  rw [HSZ.out, hsc, show ((i : Int) + 1) = ((i + 1 : Nat) : Int) by omega]
                  have := str_mid Z i (i + 1) (by omega) (by rw [HZL.out]; omega) W
                  rw [this, take_s Z i (by rw [HZL.out]; exact hiz), List.drop_append_of_le_length (by simp; have := HZL.out; omega), List.drop_of_length_le (by simp; omega), ← hyd]
                  rfl
                obtain ⟨sw, hsw⟩ : ∃ s, s = strOfNums (Y ++ [y]) := ⟨_, rfl⟩
                have haddy : ∀ W, (Op.stringOp .add sy sc).run Tryz.prog W = .ok (.string sw) W := by rw [HSY.out, hsc, hsw]; exact add_str Y [y] (by have := HYL.out; simp; omega)
                have HSW : Hid (sw = strOfNums (S5 ++ [32, 35] ++ ntF (Z.take (i + 1)))) := by show _ = _; rw [hsw, HST, if_neg h10, HY.out]; simp
                have hw1 : IntKind.i64.wrap ((i : Int) + 1) = (i : Int) + 1 := by rw [IntKind.wrap_i64]; omega
                clear HST hyd hsc hsw
                go_wp2
                go_round
                case rel => exact ⟨i + 1, by omega, by go_num, by rw [← HSW.out]⟩
                case measure => simp [intOf]; omega
            · obtain rfl : i = m := by omega
              obtain ⟨s7, hs7⟩ : ∃ s, s = strOfNums (txt L ns (k + 1)) := ⟨_, rfl⟩
              have hadd7 : ∀ W, (Op.stringOp .add sy ⟨#[10]⟩).run Tryz.prog W = .ok (.string s7) W := by
                have e : txt L ns (k + 1) = Y ++ [10] := by rw [HSTEP.out, HNT.out, line_note, HY.out, ← HS5.out, ← HZE.out, List.take_of_length_le (by rw [HZL.out]; exact Nat.le_refl _)]; simp
                rw [HSY.out, hs7, e]
                exact add_c Y [10] _ (by decide) (by have := HYL.out; simp; omega)
              have HS7 : Hid (s7 = strOfNums (txt L ns (k + 1))) := hs7
              clear hs7
              go_wp2
              go_roundw
              case rel => exact ⟨k + 1, by omega, by go_num, by rw [← HS7.out], HBZ.out⟩
              case measure => simp [intOf]; omega
        · have HNT : Hid (noteAt ns k = none) := by show _ = _; unfold noteAt; rw [if_neg (by rw [HLNS.out]; exact hno)]
          obtain ⟨s7, hs7⟩ : ∃ s, s = strOfNums (txt L ns (k + 1)) := ⟨_, rfl⟩
          have hadd7 : ∀ W, (Op.stringOp .add s5 ⟨#[10]⟩).run Tryz.prog W = .ok (.string s7) W := by
            have e : txt L ns (k + 1) = S5 ++ [10] := by rw [HSTEP.out, HNT.out, ← HS5.out]; simp
            rw [HS5S.out, hs7, e]
            exact add_c S5 [10] _ (by decide) (by have := HS5L.out; simp; omega)
          have HS7 : Hid (s7 = strOfNums (txt L ns (k + 1))) := hs7
          clear hs7
          go_wp2_with (first | (go_at_call 19; refine (HDB.out _).mono ?_; rintro e w' ⟨rfl, hw'⟩; obtain rfl : wq = w' := hw'.symm))
          go_roundw
          case rel => exact ⟨k + 1, by omega, by go_num, by rw [← HS7.out], HBQ.out⟩
          case measure => simp [intOf]; omega
    · obtain rfl : k = n := by omega
      obtain ⟨S, hS⟩ : ∃ S, S = txt L ns k := ⟨_, rfl⟩
      obtain ⟨out, hout⟩ : ∃ out, out = insAll [] (itsOf L ns) := ⟨_, rfl⟩
      have HPT : Hid (parseT S = .inl out) := by show _ = _; rw [hS, hout, HNL.out]; exact txt_read L ns HCA.out.1 HCA.out.2
      have HSRG : Hid (∀ y ∈ S, 0 ≤ y ∧ y ≤ 255) := by rw [hS]; exact txt_rng L ns HCA.out.1 HNS.out k (by rw [HNL.out]; exact Nat.le_refl _)
      have HSLN : Hid (S.length ≤ 2440) := by show S.length ≤ _; rw [hS]; have := txt_len L ns HCA.out.1 k (by rw [HNL.out]; exact Nat.le_refl _); omega
      have HOM : Hid (∀ y, y ∈ out ↔ y ∈ L) := by rw [hout]; exact fun y => txt_mem L ns HCA.out.1 y
      have HOL : Hid (out.length = k) := by show _ = _; rw [hout, HNL.out]; exact txt_n L ns
      have HASC : Hid (Asc out) := parseT_asc S out HPT.out
      have HORG : Hid (RgS out) := fun r hr => HRG.out r ((HOM.out r).1 hr)
      obtain ⟨sS, hsS⟩ : ∃ s, s = strOfNums S := ⟨_, rfl⟩
      rw [← hS, ← hsS]
      have HPA : Hid (∀ W : World, Below w.heap.size w W → Calls Tryz.prog 14 #[.string sS] W fun e w' => Below W.heap.size W w' ∧ ∃ a cap, e = .returned (.tuple #[.slice a out.length cap, .nilIface]) ∧ RdR w' a out.length out ∧ (a = none → cap = 0)) := by
        intro W hW
        rw [hsS]
        exact parse_ok S out W HPT.out HSRG.out (by have := HSLN.out; omega) (HG.out.later hW)
      rw [HOL.out] at HPA
      clear hS hsS hout
      go_wp2_with fail
      refine (HPA.out wr (HB2.out.trans (HB.out.mono HB2.out.size))).mono ?_
      rintro e w3 ⟨hb3, ag, capg, rfl, hrg, _⟩
      have HB3 : Hid (Below w2.heap.size w2 w3) := HB.out.trans (hb3.mono HB.out.size)
      have HRG3 : Hid (RdR w3 ag k out) := hrg
      clear hb3 hrg
      go_wp2
      go_loopw [12] (fun x12 wl => ∃ i : Nat, i ≤ k ∧ x12 = .int .i64 i ∧ Below w3.heap.size w3 wl) (fun x12 _ => k - (intOf x12).toNat)
      case atStart => exact ⟨0, by omega, rfl, Below.refl _ _⟩
      case round =>
        obtain ⟨i, hi, hx12, hbel⟩ := hrel
        subst hx12
        have HBL : Hid (Below w3.heap.size w3 wr) := hbel
        clear hbel
        by_cases hik : i < k
        · have hio : i < out.length := by rw [HOL.out]; exact hik
          obtain ⟨y, hy⟩ : ∃ y, y = out.getD i (0, 0, []) := ⟨_, rfl⟩
          have hym : y ∈ out := by rw [hy]; simp [hio]
          have HYL : Hid (y ∈ L) := (HOM.out y).1 hym
          have HYR : Hid (∀ c ∈ y.2.2, 0 ≤ c ∧ c ≤ 255) := HORG.out y hym
          have HCG : Hid (∀ W, Below w3.heap.size w3 W → ∃ b off, ag = some ⟨b, off, none⟩ ∧ W.cell? ⟨b, off + i * 3, none⟩ = some (.int .i32 y.1) ∧ W.cell? ⟨b, off + i * 3 + 1, none⟩ = some (.int .i32 y.2.1) ∧ W.cell? ⟨b, off + i * 3 + 2, none⟩ = some (.string (strOfNums y.2.2))) := by
            intro W hW
            rw [hy]
            exact (HRG3.out.later hW).at i hik
          have HPREV : Hid (0 < i → ∀ W, Below w3.heap.size w3 W → ∃ b off, ag = some ⟨b, off, none⟩ ∧ W.cell? ⟨b, off + (i - 1) * 3 + 1, none⟩ = some (.int .i32 (out.getD (i - 1) (0, 0, [])).2.1)) := by
            intro h0 W hW
            obtain ⟨b, off, e1, _, e2, _⟩ := (HRG3.out.later hW).at (i - 1) (by omega)
            exact ⟨b, off, e1, e2⟩
          have HLT : Hid (0 < i → (out.getD (i - 1) (0, 0, [])).2.1 < y.1) := by
            intro h0
            rw [hy]
            exact asc_lt out HASC.out (i - 1) i (by omega) hio
          clear hy hym
          go_wp2
          go_loopw [13, 14] (fun x13 x14 wl => ∃ j : Nat, j ≤ k ∧ x14 = .int .i64 j ∧ x13 = .bool (decide (y ∈ L.take j)) ∧ Below w3.heap.size w3 wl) (fun _ x14 _ => k - (intOf x14).toNat)
          case atStart => exact ⟨0, by omega, rfl, by simp, HBL.out⟩
          case round =>
            obtain ⟨j, hj, hx14, hx13, hbel⟩ := hrel
            subst hx14 hx13
            have HBJ : Hid (Below w3.heap.size w3 wr) := hbel
            clear hbel
            by_cases hjk : j < k
            · have hjl : j < L.length := by rw [← HNL.out]; exact hjk
              obtain ⟨bl, offl, hal, c0, c1, c2⟩ := (HRL.out.later (HB3.out.trans (HBJ.out.mono HB3.out.size))).at j hjk
              obtain ⟨bg, offg, hag, d0, d1, d2⟩ := HCG.out wr HBJ.out
              subst hal hag
              obtain ⟨q, hq⟩ : ∃ q, q = L.getD j (0, 0, []) := ⟨_, rfl⟩
              rw [← hq] at c0 c1 c2
              have hqr := HRG.out q (by rw [hq]; simp [hjl])
              have heq := eqR_run q y hqr HYR.out
              obtain ⟨E, hE⟩ : ∃ E, E = decide (q = y) := ⟨_, rfl⟩
              rw [← hE] at heq
              have HNX : Hid (decide (y ∈ L.take (j + 1)) = (decide (y ∈ L.take j) || E)) := by
                show _ = _
                have e : L.take (j + 1) = L.take j ++ [q] := by rw [List.take_add_one, List.getElem?_eq_getElem hjl, hq]; simp [hjl]
                rw [e, hE, Bool.eq_iff_iff]
                simp only [decide_eq_true_eq, Bool.or_eq_true, List.mem_append, List.mem_singleton]
                constructor
                · rintro (h | h)
                  · exact .inl h
                  · exact .inr h.symm
                · rintro (h | h)
                  · exact .inl h
                  · exact .inr h.symm
              obtain ⟨q1, q2, q3⟩ := q
              obtain ⟨y1, y2, y3⟩ := y
              simp only [encR] at heq
              simp only [] at c0 c1 c2 d0 d1 d2 heq
              obtain ⟨sq, hsq⟩ : ∃ sq, sq = strOfNums q3 := ⟨_, rfl⟩
              obtain ⟨sy, hsy⟩ : ∃ sy, sy = strOfNums y3 := ⟨_, rfl⟩
              rw [← hsq] at c2 heq
              rw [← hsy] at d2 heq
              obtain ⟨B, hB⟩ : ∃ B, B = decide ((y1, y2, y3) ∈ L.take j) := ⟨_, rfl⟩
              rw [← hB] at HNX ⊢
              have HNXX : Hid (decide ((y1, y2, y3) ∈ L.take (j + 1)) = (B || E)) := HNX.out
              clear hq hqr hE hsq hsy hB HNX
              cases B with
              | true =>
                go_upto_region 30 with fail
                go_quiet (fail)
                have HBQ : Hid (Below w3.heap.size w3 (wr.drewN nq)) := HBJ.out.trans ((below_drewN wr nq).mono HBJ.out.size)
                generalize wr.drewN nq = wq at HBQ ⊢
                clear c0 c1 c2 d0 d1 d2
                go_wp2
                go_roundw
                case rel => exact ⟨j + 1, by omega, by go_num, by rw [HNXX.out]; rfl, HBQ.out⟩
                case measure => simp [intOf]; omega
              | false =>
                go_upto_region 30 with fail
                go_quiet (fail)
                have HBQ : Hid (Below w3.heap.size w3 (wr.drewN nq)) := HBJ.out.trans ((below_drewN wr nq).mono HBJ.out.size)
                generalize wr.drewN nq = wq at HBQ ⊢
                clear c0 c1 c2 d0 d1 d2
                go_wp2
                go_roundw
                case rel => exact ⟨j + 1, by omega, by go_num, by rw [HNXX.out]; simp, HBQ.out⟩
                case measure => simp [intOf]; omega
            · obtain rfl : j = k := by omega
              have HIN : Hid (decide (y ∈ L.take j) = true) := by
                show _ = _
                rw [HNL.out, List.take_length, decide_eq_true_eq]
                exact HYL.out
              rw [HIN.out]
              obtain ⟨bg, offg, hag, d0, d1, d2⟩ := HCG.out wr HBJ.out
              by_cases hi0 : i = 0
              · subst hi0
                clear hag d0 d1 d2
                go_upto_region 31 with fail
                go_quiet (fail)
                have HBQ : Hid (Below w3.heap.size w3 (wr.drewN nq)) := HBJ.out.trans ((below_drewN wr nq).mono HBJ.out.size)
                generalize wr.drewN nq = wq at HBQ ⊢
                go_wp2
                go_roundw
                case rel => exact ⟨1, by omega, by go_num, HBQ.out⟩
                case measure => simp [intOf]; omega
              · obtain ⟨i', rfl⟩ : ∃ i', i = i' + 1 := ⟨i - 1, by omega⟩
                obtain ⟨bp, offp, hap, p1⟩ := HPREV.out (by omega) wr HBJ.out
                have hlt2 := HLT.out (by omega)
                rw [show i' + 1 - 1 = i' by omega] at p1 hlt2
                subst hag
                cases hap
                generalize (out.getD i' (0, 0, [])).2.1 = pv at p1 hlt2
                obtain ⟨y1, y2, y3⟩ := y
                simp only [] at d0 d1 d2 hlt2
                have hge : ¬ y1 ≤ pv := by omega
                have hge' : decide (y1 ≤ pv) = false := decide_eq_false hge
                have hw1 : IntKind.i64.wrap ((i' : Int) + 1 - 1) = (i' : Int) := by rw [IntKind.wrap_i64]; omega
                have hi1 : ((i' : Int) + 1).toNat = i' + 1 := by omega
                have hi2 : (0 : Int) ≤ (i' : Int) + 1 := by omega
                have hi3 : (0 : Int) < (i' : Int) + 1 := by omega
                have hi4 : (i' : Int) + 1 < (j : Int) := by omega
                have hi5 : (i' : Int) < (j : Int) := by omega
                clear d1 d2
                go_upto_region 31 with fail
                go_quiet (fail)
                have HBQ : Hid (Below w3.heap.size w3 (wr.drewN nq)) := HBJ.out.trans ((below_drewN wr nq).mono HBJ.out.size)
                generalize wr.drewN nq = wq at HBQ ⊢
                clear d0 p1
                go_wp2
                go_roundw
                case rel => exact ⟨i' + 2, by omega, by go_num, HBQ.out⟩
                case measure => simp [intOf]; omega
        · go_wp2
          go_ret
          exact ⟨rfl, HB2.out.trans ((HB3.out.trans (HBL.out.mono HB3.out.size)).mono HB2.out.size)⟩
end Go.Proofs.YtgncpchgmjacdaaGreatDoor
