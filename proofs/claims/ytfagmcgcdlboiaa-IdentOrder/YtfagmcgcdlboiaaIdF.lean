/- The walks of Covers, Gap, Vector. -/
import Derived.Test.YtfagmcgcdlboiaaIdD
import Derived.Laws.EntriesVeiled
namespace Go.Proofs.Ytfagmcgcdlboiaa
open Go.RowKit Go.Sort
set_option linter.unusedVariables false

theorem alloc_gw (w : World) (o : Obj) {W : World} (h : W = w.alloc o) : Gw w W := by rw [h]; exact gw_alloc w o
theorem cov1_any (A : List (Int × Int)) (a : Option Addr) (la ca p s B : Nat) (p s : Int) (w : World) (hA : AscE A) (ra : RdE w a la A) (hl : la ≤ 100000) (hB : w.heap[B]? = some (.cells #[.slice a la ca] 34)) :
    Calls Try.prog 45 #[.agg #[.int .i64 p, .int .i64 s], .pointer (some ⟨B, 0, none⟩)] w fun e w' => e = .returned (.bool (decide (sqL A p < s))) ∧ Gw w w' := by
  have HC : Hid (∀ W, Gw w W → Calls Try.prog 28 #[.slice a la ca, .int .i64 p] W fun e w' => e = .returned (.int .i64 (sqL A p)) ∧ ∃ q os', w' = grow (W.drewN q) os') := fun W hW => seq_any A p a la ca W hA (ra.gw hW) (by omega)
  have HB : Hid (w.heap[B]? = some (.cells #[.slice a la ca] 34)) := hB
  have mixed : Try.prog.follows .mixedOrders = true := by kernel_rfl
  clear hA ra hl hB
  generalize sqL A p = S at HC ⊢
  go_enter Try.func45, Try.ntmps45
  go_upto_region 1 with fail
  obtain ⟨N, hN⟩ : ∃ N, N = w.heap.size := ⟨_, rfl⟩
  obtain ⟨W0, hW0⟩ : ∃ W0, W0 = w.alloc (.cells #[.int .i64 p, .int .i64 s] 47) := ⟨_, rfl⟩
  rw [← hN, ← hW0]
  have HG : Hid (Gw w W0) := alloc_gw w _ hW0
  obtain ⟨z0, z1⟩ := box2 (show W0.heap[N]? = _ by rw [hN, hW0]; exact heap_alloc_new w _)
  have hb0 : W0.cell? ⟨B, 0, none⟩ = some (.slice a la ca) := by
    have h1 : W0.heap[B]? = some (.cells #[.slice a la ca] 34) := by rw [HG.out.below.block B (Array.getElem?_eq_some_iff.1 HB.out).1]; exact HB.out
    exact cell_of_row W0 B 0 _ _ _ h1
  have HCC : Hid (∀ n os, Calls Try.prog 28 #[.slice a la ca, .int .i64 p] (grow (W0.drewN n) os) fun e w' => e = .returned (.int .i64 S) ∧ ∃ q os', w' = grow ((grow (W0.drewN n) os).drewN q) os') := fun n os => HC.out _ (HG.out.trans ⟨n, os, rfl⟩)
  have d0 := cell_g z0; have d1 := cell_g z1; have d2 := cell_g hb0
  clear hN hW0 z0 z1 hb0
  by_cases hlt : S < s
  all_goals
    go_quiet_grown (first | (go_at_call 28; refine Calls.grown_of (HCC.out _ _)))
    go_wp2
    go_ret
    exact ⟨by simp [hlt], HG.out.trans ⟨_, _, rfl⟩⟩
/-- IndexFunc, of a function that tells just something of each entry. -/
theorem index_any (L : List (Int × Int)) (f : Int × Int → Bool) (b : Option Addr) (lb cb B : Nat) (w : World) (rb : RdE w b lb L) (hl : lb ≤ 100000)
    (hf : ∀ W, Gw w W → ∀ x ∈ L, Calls Try.prog 45 #[.agg #[.int .i64 x.1, .int .i64 x.2], .pointer (some ⟨B, 0, none⟩)] W fun e w' => e = .returned (.bool (f x)) ∧ Gw W w') :
    Calls Try.prog 51 #[.slice b lb cb, .func (.func 45) #[] #[.pointer (some ⟨B, 0, none⟩)]] w fun e w' => ∃ i : Int, e = .returned (.int .i64 i) ∧ decide (0 ≤ i) = L.any f ∧ Gw w w' := by
  have HL : Hid (L.length = lb) := rb.1
  have HD : Hid (RdE w b lb L) := rb
  have HF : Hid (∀ W, Gw w W → ∀ x ∈ L, Calls Try.prog 45 #[.agg #[.int .i64 x.1, .int .i64 x.2], .pointer (some ⟨B, 0, none⟩)] W fun e w' => e = .returned (.bool (f x)) ∧ Gw W w') := hf
  clear rb hf
  go_enter Try.func51, Try.ntmps51
  go_wp2
  go_loopw [8] (fun x8 wr => ∃ i : Nat, x8 = .int .i64 i ∧ i ≤ lb ∧ (∀ k, k < i → f (L.getD k (0, 0)) = false) ∧ Gw w wr) (fun x8 _ => lb - (intOf x8).toNat)
  case atStart => exact ⟨0, rfl, by omega, fun k hk => absurd hk (by omega), Gw.refl _⟩
  case round =>
    obtain ⟨i, hx8, hil, hno, hgw⟩ := hrel
    subst hx8
    have HNO : Hid (∀ k, k < i → f (L.getD k (0, 0)) = false) := hno
    have HG : Hid (Gw w wr) := hgw
    clear hno hgw
    by_cases hlt : i < lb
    · obtain ⟨bb, off, hab, c0, c1⟩ := (HD.out.gw HG.out).at i hlt
      subst hab
      have HC : Hid (Calls Try.prog 45 #[.agg #[.int .i64 (L.getD i (0, 0)).1, .int .i64 (L.getD i (0, 0)).2], .pointer (some ⟨B, 0, none⟩)] wr fun e w' => e = .returned (.bool (f (L.getD i (0, 0)))) ∧ Gw wr w') := HF.out wr HG.out (L.getD i (0, 0)) (by have := HL.out; simp [show i < L.length by omega])
      generalize (L.getD i (0, 0)).1 = y1 at c0 HC
      generalize (L.getD i (0, 0)).2 = y2 at c1 HC
      cases hfi : f (L.getD i (0, 0))
      · rw [hfi] at HC
        have HNX : Hid (∀ k, k < i + 1 → f (L.getD k (0, 0)) = false) := fun k hk => by
          rcases Nat.lt_or_ge k i with h | h
          · exact HNO.out k h
          · rw [show k = i by omega]; exact hfi
        clear hfi
        go_wp2_with (first | (go_at_call 45; refine HC.out.mono ?_; rintro e w2 ⟨rfl, hg⟩; have HG2 : Hid (Gw wr w2) := hg; clear hg))
        go_roundw
        case rel => exact ⟨i + 1, by go_num, by omega, HNX.out, HG.out.trans HG2.out⟩
        case measure => simp [intOf]; omega
      · rw [hfi] at HC
        have HAN : Hid (true = L.any f) := by
          show true = _
          exact (List.any_eq_true.2 ⟨L.getD i (0, 0), by have := HL.out; simp [show i < L.length by omega], hfi⟩).symm
        clear hfi
        go_wp2_with (first | (go_at_call 45; refine HC.out.mono ?_; rintro e w2 ⟨rfl, hg⟩; have HG2 : Hid (Gw wr w2) := hg; clear hg))
        go_ret
        exact ⟨i, rfl, by rw [← HAN.out]; exact decide_eq_true (by omega), HG.out.trans HG2.out⟩
    · obtain rfl : i = lb := by omega
      have HAN : Hid (false = L.any f) := by
        show false = _
        symm
        rw [List.any_eq_false]
        intro x hx
        obtain ⟨k, hk, rfl⟩ := List.mem_iff_getElem.1 hx
        have := HNO.out k (by have := HL.out; omega)
        simpa [hk] using this
      go_wp2
      go_ret
      exact ⟨-1, rfl, by rw [← HAN.out]; rfl, HG.out⟩
theorem contains_any (L : List (Int × Int)) (f : Int × Int → Bool) (b : Option Addr) (lb cb B : Nat) (w : World) (rb : RdE w b lb L) (hl : lb ≤ 100000)
    (hf : ∀ W, Gw w W → ∀ x ∈ L, Calls Try.prog 45 #[.agg #[.int .i64 x.1, .int .i64 x.2], .pointer (some ⟨B, 0, none⟩)] W fun e w' => e = .returned (.bool (f x)) ∧ Gw W w') :
    Calls Try.prog 44 #[.slice b lb cb, .func (.func 45) #[] #[.pointer (some ⟨B, 0, none⟩)]] w fun e w' => e = .returned (.bool (L.any f)) ∧ Gw w w' := by
  have HC : Hid (Calls Try.prog 51 #[.slice b lb cb, .func (.func 45) #[] #[.pointer (some ⟨B, 0, none⟩)]] w fun e w' => ∃ i : Int, e = .returned (.int .i64 i) ∧ decide (0 ≤ i) = L.any f ∧ Gw w w') := index_any L f b lb cb B w rb hl hf
  clear rb hf
  generalize L.any f = R at HC ⊢
  go_enter Try.func44, Try.ntmps44
  go_wp2_with (first | (go_at_call 51; refine HC.out.mono ?_; rintro e w2 ⟨i, rfl, hi, hg⟩; have HG2 : Hid (Gw w w2) := hg; clear hg))
  go_ret
  exact ⟨rfl, HG2.out⟩
theorem covers_any (A L : List (Int × Int)) (a b : Option Addr) (la ca lb cb : Nat) (w : World) (hA : AscE A) (ra : RdE w a la A) (rb : RdE w b lb L) (h1 : la ≤ 100000) (h2 : lb ≤ 100000) :
    Calls Try.prog 27 #[.slice a la ca, .slice b lb cb] w fun e w' => e = .returned (.bool (covL A L)) ∧ Gw w w' := by
  have HC : Hid (Calls Try.prog 44 #[.slice b lb cb, .func (.func 45) #[] #[.pointer (some ⟨w.heap.size, 0, none⟩)]] (w.alloc (.cells #[.slice a la ca] 34)) fun e w' => e = .returned (.bool (L.any fun x => decide (sqL A x.1 < x.2))) ∧ Gw w w') := by
    refine (contains_any L (fun x => decide (sqL A x.1 < x.2)) b lb cb w.heap.size _ (rb.gw (gw_alloc w _)) h2 ?_).mono fun e w' h => ⟨h.1, (gw_alloc w _).trans h.2⟩
    intro W hW x hx
    refine cov1_any A a la ca 0 0 w.heap.size x.1 x.2 W hA (ra.gw ((gw_alloc w _).trans hW)) h1 ?_
    rw [hW.below.block _ (by simp)]
    exact heap_alloc_new w _
  have hcv : covL A L = !(L.any fun x => decide (sqL A x.1 < x.2)) := by
    unfold covL
    rw [List.not_any_eq_all_not]
    congr 1
    funext x
    by_cases h : x.2 ≤ sqL A x.1 <;> simp [h] <;> omega
  rw [hcv]
  clear hcv ra rb hA
  generalize (L.any fun x => decide (sqL A x.1 < x.2)) = R at HC ⊢
  go_enter Try.func27, Try.ntmps27
  go_wp2_with (first | (go_at_call 44; refine HC.out.mono ?_; rintro e w2 ⟨rfl, hg⟩; have HG2 : Hid (Gw w w2) := hg; clear hg))
  go_ret
  exact ⟨rfl, HG2.out⟩
end Go.Proofs.Ytfagmcgcdlboiaa
