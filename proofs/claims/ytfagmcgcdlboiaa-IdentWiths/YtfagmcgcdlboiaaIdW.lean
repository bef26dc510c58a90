/- The walks of the reference's Join, Gap, Vector, Same, and of the statements' vector. -/
import Derived.Test.YtfagmcgcdlboiaaIdV
import Derived.Test.YtfagmcgcdlboiaaIdG
import Derived.Deep.RegionWith
namespace Go.Proofs.Ytfagmcgcdlboiaa
open Go.RowKit Go.Sort
set_option linter.unusedVariables false

theorem join_next (A B : List (Int × Int)) (i : Nat) (h : i < B.length) : joinL A (B.take (i + 1)) = withL (joinL A (B.take i)) (B.getD i (0, 0)).1 (B.getD i (0, 0)).2 := by
  have e : B.take (i + 1) = B.take i ++ [B.getD i (0, 0)] := by rw [List.take_add_one]; simp [h]
  rw [e]
  simp [joinL, List.foldl_append]
theorem row_next {w W w' : World} {rs : List (Int × Int)} {e : Ending} (hb : Below w.heap.size w W) (h : RowP rs W e w') : ∃ v, e = .returned v ∧ WtW w v rs w' := by
  obtain ⟨v, rfl, ho, hb2⟩ := h
  have h3 := hb.trans (hb2.mono hb.size)
  exact ⟨v, rfl, own_base ho hb.size, h3, h3.size⟩
set_option maxHeartbeats 1000000 in
theorem refJoin_any (A B : List (Int × Int)) (a b : Option Addr) (la ca lb cb : Nat) (w : World) (hA : Vec A) (ra : RdE w a la A) (rb : RdE w b lb B) (na : a = none → ca = 0) (h1 : la ≤ 400) (h2 : lb ≤ 400) :
    Calls Try.prog 24 #[.slice a la ca, .slice b lb cb] w (RowP (joinL A B) w) := by
  have HLA : Hid (A.length = la) := ra.1
  have HLB : Hid (B.length = lb) := rb.1
  have HSA : Hid (SrcAt w a la ca 2 (flatE A)) := srcE ra na
  have HD : Hid (RdE w b lb B) := rb
  have HVA : Hid (Vec A) := hA
  obtain ⟨i0, hi, hz0, hz1, hz2⟩ := info_parts info_E
  have HI : Hid (Try.prog.info? 47 = some i0 ∧ i0.zero = some (.agg #[.int .i64 0, .int .i64 0]) ∧ i0.size = 2 ∧ i0.bytes = 16) := ⟨hi, hz0, hz1, hz2⟩
  have HO : Hid ((w.alloc (.cells #[] 47)).ownsRow w.heap.size 47 2 (.slice (some ⟨w.heap.size, 0, none⟩) 0 0) 0 []) := World.ownsRow_made w #[] 0 (Nat.le_refl _) (by simp [maxLen]) rfl
  have HS2 : Hid (SrcAt (w.alloc (.cells #[] 47)) a la ca 2 (flatE A)) := by
    obtain ⟨s1, s2, s3, s4⟩ := HSA.out
    refine ⟨s1, s2, fun x hx j u hu => ?_, s4⟩
    have := s3 x hx j u hu
    rw [World.cell?_alloc_lt _ _ _ (World.block_lt_of_cell? w _ this)]
    exact this
  have HFIN : Hid (∀ v' w', w'.ownsRow w.heap.size 47 2 v' (0 + la) ([] ++ flatE A) → (w.alloc (.cells #[] 47)).grownBy w' (some w.heap.size) → WtW w v' A w') := by
    intro v' w' h1 h2
    have hb : Below w.heap.size w w' := ((Below.refl _ w).alloc (Nat.le_refl _) _).grown h2 (by simp) (fun k hk => by cases hk; exact Nat.le_refl _)
    exact ⟨by rw [Nat.zero_add, List.nil_append] at h1; rw [HLA.out]; exact h1, hb, hb.size⟩
  clear hi hz0 hz1 hz2 hA ra rb na HSA
  go_enter Try.func24, Try.ntmps24
  go_wp2_with (first
    | (at_builtin; refine wpList_append_src rfl _ _ 34 rfl w.heap.size 47 i0 _ 2 16 Try.underlying34 HI.out.1 HI.out.2.1 HI.out.2.2.1 HI.out.2.2.2 rfl (by decide) _ 0 [] rfl HO.out a la ca (flatE A) rfl HS2.out (by unfold maxLen; omega) (by omega) (by simp) (fun v' w' h1 h2 => ?_); have HFF : Hid (WtW w v' A w') := HFIN.out v' w' h1 h2; clear h1 h2))
  go_loopw [5, 6] (fun x5 x6 wr => ∃ i : Nat, x6 = .int .i64 i ∧ i ≤ lb ∧ WtW w x5 (joinL A (B.take i)) wr) (fun _ x6 _ => lb - (intOf x6).toNat)
  case atStart => exact ⟨0, rfl, by omega, HFF.out⟩
  case round =>
    clear HFF HO HS2 HFIN
    obtain ⟨i, hx6, hil, hwt⟩ := hrel
    subst hx6
    have HW : Hid (WtW w u5 (joinL A (B.take i)) wr) := hwt
    by_cases hlt : i < lb
    · have hn := join_next A B i (by rw [HLB.out]; exact hlt)
      obtain ⟨bb, off, hab, c0, c1⟩ := (HD.out.later hwt.2.1).at i hlt
      subst hab
      have hv := join_vec A (B.take i) HVA.out
      have hll := join_len A (B.take i)
      rw [List.length_take] at hll
      generalize (B.getD i (0, 0)).1 = y1 at c0 hn
      generalize (B.getD i (0, 0)).2 = y2 at c1 hn
      generalize joinL A (B.take i) = J at hn hv hll hwt HW
      obtain ⟨a5, c5, rfl, _, _, hr5, hn5⟩ := rdE_own hwt.1
      have hJl : J.length ≤ 1000 := by have := HLA.out; have := HLB.out; omega
      have HWT : Hid (∀ W, Gw wr W → Calls Try.prog 22 #[.slice a5 J.length c5, .int .i64 y1, .int .i64 y2] W (RowP (withL J y1 y2) W)) := fun W hW => refWith_any J y1 y2 a5 J.length c5 W hv.1 (hr5.gw hW) hn5 hJl
      have HNX : Hid (∀ W, Gw wr W → ∀ e w', RowP (withL J y1 y2) W e w' → ∃ v, e = .returned v ∧ WtW w v (joinL A (B.take (i + 1))) w') := by
        intro W hW e w' h
        rw [hn]
        exact row_next (hwt.2.1.trans (hW.below.mono hwt.2.1.size)) h
      clear hn hv hll hwt hr5 hn5 hJl HW
      go_upto_region 5 with fail
      go_region_with (first | (go_at_call 22; refine (HWT.out _ ⟨1, #[], by rw [grow_empty]; rfl⟩).mono ?_; intro e w2 hh; obtain ⟨v2, rfl, h2⟩ := HNX.out _ ⟨1, #[], by rw [grow_empty]; rfl⟩ _ _ hh; have HW2 : Hid (WtW w v2 (joinL A (B.take (i + 1))) w2) := h2; clear hh h2))
      all_goals
        go_wp2
        go_roundw
        case rel => exact ⟨i + 1, by go_num, by omega, HW2.out⟩
        case measure => simp [intOf]; omega
    · obtain rfl : i = lb := by omega
      have HEQ : Hid (WtW w u5 (joinL A B) wr) := by
        show WtW w u5 (joinL A B) wr
        have e : B.take i = B := List.take_of_length_le (by rw [HLB.out]; omega)
        rw [e] at hwt
        exact hwt
      clear hwt HW
      go_wp2
      go_ret
      exact ⟨u5, rfl, HEQ.out.1, HEQ.out.2.1⟩
/-- The vector of what is handed in. -/
def vecF (v : List (Int × Int)) (e : Int × Int) : List (Int × Int) := withL v (e.1 % 4194304) (1 + e.2 % 65536)
def vecL (l : List (Int × Int)) : List (Int × Int) := (l.take 30).foldl vecF []
theorem and_low2 (n m : Int) (j : Nat) (hj : j ≤ 40) (hm : (BitVec.ofInt 64 m).toNat = 2 ^ j - 1) : bits .and .i64 n m = n % 2 ^ j := by
  have key : (BitVec.ofInt 64 n &&& BitVec.ofInt 64 m).toNat = (n % ((2 ^ 64 : Nat) : Int)).toNat % 2 ^ j := by
    rw [BitVec.toNat_and, BitVec.toNat_ofInt, hm, Nat.and_two_pow_sub_one_eq_mod]
  show IntKind.i64.wrap ((BitVec.ofInt 64 n &&& BitVec.ofInt 64 m).toNat : Nat) = n % 2 ^ j
  rw [key, IntKind.wrap_i64]
  have hd : ((2 ^ j : Nat) : Int) ∣ ((2 ^ 64 : Nat) : Int) := by
    have : (2 ^ j : Nat) ∣ (2 ^ 64 : Nat) := Nat.pow_dvd_pow 2 (by omega)
    exact_mod_cast this
  have h0 : 0 ≤ n % ((2 ^ 64 : Nat) : Int) := Int.emod_nonneg _ (by decide)
  have h1 : (((n % ((2 ^ 64 : Nat) : Int)).toNat % 2 ^ j : Nat) : Int) = n % 2 ^ j := by
    rw [Int.natCast_emod, Int.toNat_of_nonneg h0, Int.emod_emod_of_dvd n hd]; simp
  have h2 : ((n % ((2 ^ 64 : Nat) : Int)).toNat % 2 ^ j : Nat) < 2 ^ j := Nat.mod_lt _ (Nat.two_pow_pos j)
  have h3 : (2 : Nat) ^ j ≤ 2 ^ 40 := Nat.pow_le_pow_right (by decide) hj
  rw [h1]
  rw [← h1]
  generalize ((n % ((2 ^ 64 : Nat) : Int)).toNat % 2 ^ j : Nat) = q at *
  omega
theorem and22 (n : Int) : bits .and .i64 n 4194303 = n % 4194304 := and_low2 n 4194303 22 (by omega) (by decide)
theorem and16 (n : Int) : bits .and .i64 n 65535 = n % 65536 := and_low2 n 65535 16 (by omega) (by decide)
theorem vec_fold (l : List (Int × Int)) (v : List (Int × Int)) (h : Vec v) : Vec (l.foldl vecF v) := by
  induction l generalizing v with
  | nil => exact h
  | cons x r ih => exact ih _ (with_vec v _ _ h)
theorem fold_len (l : List (Int × Int)) (v : List (Int × Int)) : (l.foldl vecF v).length ≤ v.length + l.length := by
  induction l generalizing v with
  | nil => simp
  | cons x r ih =>
    have h1 := ih (vecF v x)
    have h2 := with_len v (x.1 % 4194304) (1 + x.2 % 65536)
    rw [List.foldl_cons, List.length_cons]
    unfold vecF at h1 ⊢
    omega
/-- What a vector's entries are. -/
def RngE (v : List (Int × Int)) : Prop := ∀ x ∈ v, (0 ≤ x.1 ∧ x.1 < 4194304) ∧ 1 ≤ x.2 ∧ x.2 ≤ 65536
theorem fold_rng (l : List (Int × Int)) (v : List (Int × Int)) (h : RngE v) : RngE (l.foldl vecF v) := by
  induction l generalizing v with
  | nil => exact h
  | cons x r ih =>
    refine ih _ fun y hy => ?_
    rcases with_mem v _ _ y hy with rfl | hy
    · simp only
      omega
    · exact h y hy
theorem vec_is (l : List (Int × Int)) : Vec (vecL l) ∧ RngE (vecL l) ∧ (vecL l).length ≤ 30 := by
  refine ⟨vec_fold _ _ vec_nil, fold_rng _ _ (fun x h => by cases h), ?_⟩
  have := fold_len (l.take 30) []
  unfold vecL
  simp at this ⊢
  omega
theorem take_next (l : List (Int × Int)) (i : Nat) (h : i < l.length) : (l.take (i + 1)).foldl vecF [] = withL ((l.take i).foldl vecF []) ((l.getD i (0, 0)).1 % 4194304) (1 + (l.getD i (0, 0)).2 % 65536) := by
  have e : l.take (i + 1) = l.take i ++ [l.getD i (0, 0)] := by rw [List.take_add_one]; simp [h]
  rw [e, List.foldl_append]
  rfl
end Go.Proofs.Ytfagmcgcdlboiaa
