/- Walks of the reference: Get, Text. -/
import Derived.Test.YtefikaldfbidkaaPackR
import Derived.Deep.DeepCutAuto
namespace Go.Proofs.Ytefikaldfbidkaa
open Go.RowKit
set_option linter.unusedVariables false

/-- What the reference tries at n bytes. -/
def tryAt (bs : List Int) (n : Nat) : Int := vl (bs.take n) % 18446744073709551616
theorem tryAt_rng (bs : List Int) (n : Nat) : 0 ≤ tryAt bs n ∧ tryAt bs n ≤ 18446744073709551615 := by unfold tryAt; omega
theorem tryAt_some (bs : List Int) (n : Nat) (hn : n ≤ bs.length) (h : bs.take n = pk (tryAt bs n)) : gt bs = some (tryAt bs n, n) :=
  gt_at bs _ n (tryAt_rng bs n).1 (tryAt_rng bs n).2 h hn
theorem tryAt_none (bs : List Int) (hr : ∀ y ∈ bs, 0 ≤ y ∧ y ≤ 255) (h : ∀ n, 1 ≤ n → n ≤ 10 → n ≤ bs.length → bs.take n ≠ pk (tryAt bs n)) : gt bs = none := by
  cases hg : gt bs with
  | none => rfl
  | some p =>
    obtain ⟨v, n⟩ := p
    obtain ⟨h1, h2, h3, h4, h5⟩ := gt_inv bs v n hr hg
    have hl := pk_len v
    refine absurd ?_ (h n (by omega) (by omega) h3)
    have e : tryAt bs n = v := by unfold tryAt; rw [h4, pk_vl v h1 h2]; omega
    rw [e]; exact h4

/-- What is summed up behind the bytes from j on. -/
theorem vl_step (bs : List Int) (n j : Nat) (hj : j < n) (hn : n ≤ bs.length) :
    (vl ((bs.take n).drop (j + 1)) % 18446744073709551616 * 128 + bs.getD j 0 % 128) % 18446744073709551616 = vl ((bs.take n).drop j) % 18446744073709551616 := by
  have e : (bs.take n).drop j = bs.getD j 0 :: (bs.take n).drop (j + 1) := by
    rw [List.drop_eq_getElem_cons (by simp; omega)]
    simp [show j < bs.length by omega]
  rw [e, vl]
  omega

theorem wrap_two (A y : Int) (h0 : 0 ≤ A) (h1 : 0 ≤ y) : IntKind.u64.wrap (IntKind.u64.wrap (A * 128) + y % 128) = (A * 128 + y % 128) % 18446744073709551616 := by
  rw [IntKind.wrap_u64, IntKind.wrap_u64]; omega
theorem rput_nil (v : Int) (w : World) (h0 : 0 ≤ v) (h1 : v ≤ 18446744073709551615) :
    Calls Try.prog 12 #[.string ⟨#[]⟩, .int .u64 v] w fun e w' => e = .returned (.string (strOfNums (pk v))) ∧ Below w.heap.size w w' := by
  rw [← str_nil]
  have := rput_any v [] w h0 h1 (by simp)
  rwa [List.nil_append] at this

set_option maxHeartbeats 2000000 in
theorem rget_any (bs : List Int) (w : World) (hr : ∀ y ∈ bs, 0 ≤ y ∧ y ≤ 255) (hlen : bs.length ≤ 1000000000) :
    Calls Try.prog 16 #[.string (strOfNums bs)] w fun e w' => e = .returned (.tuple #[.int .u64 (ga bs).1, .int .i64 (ga bs).2.1, .bool (ga bs).2.2]) ∧ Below w.heap.size w w' := by
  have HR : Hid (∀ y ∈ bs, 0 ≤ y ∧ y ≤ 255) := hr
  have hsz := strOfNums_size bs
  obtain ⟨G, hG⟩ : ∃ G, G = ga bs := ⟨_, rfl⟩
  rw [← hG]
  have HG : Hid (G = ga bs) := hG
  clear hr hG
  go_enter Try.func16, Try.ntmps16
  go_wp2
  go_loopw [5] (fun x5 wr => ∃ n : Nat, 1 ≤ n ∧ n ≤ 11 ∧ n ≤ bs.length + 1 ∧ x5 = .int .i64 n ∧ (∀ m, 1 ≤ m → m < n → bs.take m ≠ pk (tryAt bs m)) ∧ Below w.heap.size w wr) (fun x5 _ => 11 - (intOf x5).toNat)
  case atStart => exact ⟨1, by omega, by omega, by omega, rfl, fun m h1 h2 => by omega, Below.refl _ _⟩
  case round =>
    obtain ⟨n, hn1, hn2, hn3, hx5, hno, hb⟩ := hrel
    subst hx5
    have HNO : Hid (∀ m, 1 ≤ m → m < n → bs.take m ≠ pk (tryAt bs m)) := hno
    have HB : Hid (Below w.heap.size w wr) := hb
    clear hno hb
    by_cases hin : n ≤ 10 ∧ n ≤ bs.length
    · obtain ⟨hi1, hi2⟩ := hin
      have hcut := str_take bs n hi2
      have hrt := tryAt_rng bs n
      obtain ⟨T, hT⟩ : ∃ T, T = tryAt bs n := ⟨_, rfl⟩
      rw [← hT] at hrt
      have HT : Hid (T = tryAt bs n) := hT
      have HTD : Hid (T = vl ((bs.take n).drop 0) % 18446744073709551616) := by show T = _; rw [hT]; rfl
      have hrt0 : 0 ≤ T := hrt.1
      have hrt1 : T ≤ 18446744073709551615 := hrt.2
      clear hT hrt
      go_wp2
      go_loop [6, 7] (fun x6 x7 => ∃ j : Nat, j ≤ n ∧ x7 = .int .i64 ((j : Int) - 1) ∧ x6 = .int .u64 (vl ((bs.take n).drop j) % 18446744073709551616)) (fun _ x7 => ((intOf x7) + 1).toNat)
      case atStart => exact ⟨n, by omega, by go_num, by rw [List.drop_eq_nil_of_le (by simp; omega)]; rfl⟩
      case round =>
        obtain ⟨j, hj, hx7, hx6⟩ := hrel
        subst hx7 hx6
        by_cases hj0 : 0 < j
        · obtain ⟨k, rfl⟩ : ∃ k, j = k + 1 := ⟨j - 1, by omega⟩
          have hkj : ((k + 1 : Nat) : Int) - 1 = (k : Int) := by omega
          rw [hkj]
          have hat := str_at bs k (by omega) HR.out
          obtain ⟨y, hy⟩ : ∃ y, y = bs.getD k 0 := ⟨_, rfl⟩
          have hyr := HR.out y (by rw [hy]; simp [show k < bs.length by omega])
          rw [← hy] at hat
          obtain ⟨A, hA⟩ : ∃ A, A = vl ((bs.take n).drop (k + 1)) % 18446744073709551616 := ⟨_, rfl⟩
          have HST : Hid ((A * 128 + y % 128) % 18446744073709551616 = vl ((bs.take n).drop k) % 18446744073709551616) := by rw [hA, hy]; exact vl_step bs n k (by omega) hi2
          rw [← hA]
          have hA0 : 0 ≤ A := by omega
          have hA1 : A ≤ 18446744073709551615 := by omega
          have hy0 : 0 ≤ y := hyr.1
          have hy1 : y ≤ 255 := hyr.2
          clear hA hy hyr
          go_wp2
          go_round
          case rel => exact ⟨k, by omega, by go_num, by rw [← HST.out, wrap_two A y hA0 hy0]⟩
          case measure => first | (simp [intOf]; done) | (simp [intOf]; omega)
        · obtain rfl : j = 0 := by omega
          rw [← HTD.out]
          clear HTD
          obtain ⟨P, hP⟩ : ∃ P, P = pk T := ⟨_, rfl⟩
          have HP : Hid (P = pk T) := hP
          by_cases heq : bs.take n = P
          · have HEQ : Hid (bs.take n = P) := heq
            rw [heq] at hcut
            clear heq hP
            go_upto_region 9 with fail
            go_region_with (go_at_call 12; refine (rput_nil T _ hrt0 hrt1).mono ?_; rw [← HP.out]; rintro e w1 ⟨rfl, hb1⟩; have HB1 : Hid (Below w.heap.size w w1) := HB.out.trans (below_undrew (hb1.mono HB.out.size)); clear hb1)
            all_goals
              go_wp2
              go_ret3
              exact ⟨by rw [HG.out, HT.out, ga_some bs (tryAt bs n) n (tryAt_some bs n hi2 (by rw [← HT.out, ← HP.out]; exact HEQ.out))]; rfl, HB1.out⟩
          · have hq : ((strOfNums P).toList == (strOfNums (bs.take n)).toList) = false := by
              rw [str_eq P (bs.take n) (by rw [hP]; exact pk_rng T hrt0 hrt1) (fun y hy => HR.out y (List.mem_of_mem_take hy)), decide_eq_false_iff_not]
              exact fun h => heq h.symm
            have HNE : Hid (¬ bs.take n = P) := heq
            obtain ⟨S, hS⟩ : ∃ S, S = bs.take n := ⟨_, rfl⟩
            rw [← hS] at hq hcut
            clear heq hP hS
            go_upto_region 9 with fail
            go_region_with (go_at_call 12; refine (rput_nil T _ hrt0 hrt1).mono ?_; rw [← HP.out]; rintro e w1 ⟨rfl, hb1⟩; have HB1 : Hid (Below w.heap.size w w1) := HB.out.trans (below_undrew (hb1.mono HB.out.size)); clear hb1)
            all_goals
              go_wp2
              go_roundw
            case rel =>
              refine ⟨n + 1, by omega, by omega, by omega, by go_num, fun m h1 h2 => ?_, HB1.out⟩
              rcases (by omega : m < n ∨ m = n) with h | h
              · exact HNO.out m h1 h
              · rw [h, ← HT.out, ← HP.out]; exact HNE.out
            case measure => simp [intOf]; omega
    · have HEND : Hid (ga bs = (0, 0, false)) := ga_none bs (tryAt_none bs HR.out (fun m h1 h2 h3 => HNO.out m h1 (by omega)))
      by_cases h10 : n ≤ 10
      · have h11 : ¬ n ≤ bs.length := by omega
        clear hin
        go_wp2
        go_ret3
        exact ⟨by rw [HG.out, HEND.out]; rfl, HB.out⟩
      · clear hin
        go_wp2
        go_ret3
        exact ⟨by rw [HG.out, HEND.out]; rfl, HB.out⟩

theorem str_mid (xs : List Int) (n m : Nat) (h : n + m ≤ xs.length) (W : World) : (Instr.slice 9 (.string (strOfNums xs)) (some (.int .i64 n)) (some (.int .i64 ((n : Int) + (m : Int)))) none).run Try.prog W = .ok (.string (strOfNums ((xs.drop n).take m))) W := by
  rw [run_slice_string W 9 _ .i64 .i64 n ((n : Int) + (m : Int)) Try.underlying9 (by omega) (by omega) (by rw [strOfNums_size]; omega)]
  congr 2
  apply str_ext
  rw [Lib.extract_data, strOfNums_data, strOfNums_data, show ((n : Int) + (m : Int)).toNat - ((n : Int)).toNat = m by omega, Int.toNat_natCast, List.map_take, List.map_drop]

set_option maxHeartbeats 1000000 in
theorem rtext_any (bs : List Int) (w : World) (hr : ∀ y ∈ bs, 0 ≤ y ∧ y ≤ 255) (hlen : bs.length ≤ 1000000000) :
    Calls Try.prog 18 #[.string (strOfNums bs)] w fun e w' => e = .returned (.tuple #[.string (strOfNums (ta bs).1), .int .i64 (ta bs).2.1, .bool (ta bs).2.2]) ∧ Below w.heap.size w w' := by
  have HR : Hid (∀ y ∈ bs, 0 ≤ y ∧ y ≤ 255) := hr
  have hsz := strOfNums_size bs
  obtain ⟨T, hT⟩ : ∃ T, T = ta bs := ⟨_, rfl⟩
  rw [← hT]
  have HT : Hid (T = ta bs) := hT
  clear hr hT
  cases hg : gt bs with
  | none =>
    have HG : Hid (gt bs = none) := hg
    clear hg
    go_enter Try.func18, Try.ntmps18
    go_wp2_with (first | (go_at_call 16; refine (rget_any bs _ HR.out hlen).mono ?_; rw [ga_none bs HG.out]; rintro e w1 ⟨rfl, hb1⟩; have HB1 : Hid (Below w.heap.size w w1) := hb1; clear hb1))
    go_ret3
    exact ⟨by rw [HT.out, ta_none bs (tx_none bs HG.out)]; rfl, HB1.out⟩
  | some p =>
    obtain ⟨v, n⟩ := p
    have HG : Hid (gt bs = some (v, n)) := hg
    have hi := gt_inv bs v n HR.out hg
    have hv0 : 0 ≤ v := hi.1
    have hv1 : v ≤ 18446744073709551615 := hi.2.1
    have hn : n ≤ bs.length := hi.2.2.1
    clear hg hi
    by_cases hb : (bs.length : Int) - n < v
    · go_enter Try.func18, Try.ntmps18
      go_wp2_with (first | (go_at_call 16; refine (rget_any bs _ HR.out hlen).mono ?_; rw [ga_some bs v n HG.out]; rintro e w1 ⟨rfl, hb1⟩; have HB1 : Hid (Below w.heap.size w w1) := hb1; clear hb1))
      go_ret3
      exact ⟨by rw [HT.out, ta_none bs (tx_big bs v n HG.out hb)]; rfl, HB1.out⟩
    · obtain ⟨m, rfl⟩ : ∃ m : Nat, v = (m : Int) := ⟨v.toNat, by omega⟩
      have hcut := str_mid bs n m (by omega)
      have hle : (m : Int) ≤ (bs.length : Int) - n := by omega
      clear hb
      go_enter Try.func18, Try.ntmps18
      go_wp2_with (first | (go_at_call 16; refine (rget_any bs _ HR.out hlen).mono ?_; rw [ga_some bs (m : Int) n HG.out]; rintro e w1 ⟨rfl, hb1⟩; have HB1 : Hid (Below w.heap.size w w1) := hb1; clear hb1))
      go_ret3
      exact ⟨by rw [HT.out, ta_some bs _ _ (tx_some bs (m : Int) n HG.out hle)]; simp, HB1.out⟩
end Go.Proofs.Ytefikaldfbidkaa
