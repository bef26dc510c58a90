/- The walk of pass: by induction on how deep the expression is. -/
import Derived.Test.YtjbhfonokgkalaaReaD
namespace Go.Proofs.Ytjbhfonokgkalaa
open Go.RowKit
set_option linter.unusedVariables false

theorem Chg.same {fp : Nat → Prop} {b : Nat} {w w' : World} (h : w' = w) : Chg fp b w w' := h ▸ Chg.refl fp b w

set_option maxHeartbeats 8000000 in
theorem pass_up (B d : Nat) (HP : PassC B d) : PassC B (d + 1) := by
  intro n h c bg b off cur fp w hb hfb hbB hfB hB hn
  have HND : Hid (NdV B w (d + 1) n h ((cur.toList.drop off).take 5) fp) := hn
  have HPC : Hid (PassC B d) := HP
  obtain ⟨ca, cc, pa, pc, hv, hrd, hcb, hcl, hkl, hrow⟩ := hn
  obtain ⟨v0, v1, v2, v3, v4⟩ := five_at hv
  have c0 : w.cell? ⟨b, off, none⟩ = some (.int .i64 n.op) := (cell_of_row w b off _ _ _ hb).trans v0
  have c1 : w.cell? ⟨b, off + 1, none⟩ = some (.slice ca n.cl.length cc) := (cell_of_row w b (off + 1) _ _ _ hb).trans v1
  have c4 : w.cell? ⟨b, off + 4, none⟩ = some (.bool (n.end h)) := (cell_of_row w b (off + 4) _ _ _ hb).trans v4
  have f4 : w.frozen? ⟨b, off + 4, none⟩ = false := Lib.frozen_of_heap hb _
  obtain ⟨op, hop⟩ : ∃ op, op = n.op := ⟨_, rfl⟩
  have HX : Hid (NdX (NdV B w d) B w n (n.end h) (n.hs h) ((cur.toList.drop off).take 5) fp) := HND.out
  have HH : Hid (w.heap[b]? = some (.cells cur 82 (0, 0)) ∧ ¬ fp b ∧ B ≤ b ∧ (∀ x, fp x → B ≤ x) ∧ B ≤ w.heap.size ∧ off + 4 < cur.size) := ⟨hb, hfb, hbB, hfB, hB, (Array.getElem?_eq_some_iff.1 v4).1⟩
  rw [← hop] at c0
  by_cases h1 : op = 1
  · -- a set
    have HEN : Hid (n.end ((c, bg) :: h) = (bg && decide (c ∈ n.cl))) := by
      show nodeE n.op n.cl (den n.kids) ((c, bg) :: h) = _
      rw [← hop, h1]; rfl
    have HHS : Hid (∀ h', n.hs h' = List.replicate (toL n.kids).length h') := by
      intro h'; unfold Nd.hs; rw [← hop, h1]; rfl
    have HCT : Hid (Calls Try.prog 55 #[.slice ca n.cl.length cc, .int .i64 c] w fun e w' => e = .returned (.bool (decide (c ∈ n.cl))) ∧ w' = w) := containsI_any n.cl c ca n.cl.length cc w hrd (by omega)
    have hz : (toL n.kids).length = 0 := hkl.2 (by rw [← hop]; omega)
    have HFIN : Hid (PsPost B (d + 1) n ((c, bg) :: h) b off cur fp w (w.setCell ⟨b, off + 4, none⟩ (.bool (bg && decide (c ∈ n.cl))))) := by
      have hset := heap_setCell_same w b (off + 4) cur _ (.bool (bg && decide (c ∈ n.cl))) hb
      rw [← HEN.out] at hset ⊢
      refine ⟨hset, ⟨ca, cc, pa, pc, five_set hv _, hrd.frame hcb (fun x hx hxB => Below.heap_setCell _ _ _ x (fun e => ?_)), hcb, hcl, hkl, fun hp => absurd hp (by omega)⟩, Chg.set fp b _ w _⟩
      have : x = b := e
      omega
    obtain ⟨q, hq⟩ : ∃ q, q = decide (c ∈ n.cl) := ⟨_, rfl⟩
    rw [← hq] at HCT HFIN
    obtain ⟨m, hm⟩ : ∃ m, m = n.cl.length := ⟨_, rfl⟩
    rw [← hm] at HCT c1
    clear HP hv hrd hcb hcl hkl hrow v0 v1 v2 v3 v4 hb hfb hbB hfB hB hop hz hq hm HND HX HH HPC HEN HHS
    subst h1
    cases bg with
    | false =>
      go_enter Try.func78, Try.ntmps78
      go_wp2
      go_end0
      exact ⟨rfl, by simpa using HFIN.out⟩
    | true =>
      go_enter Try.func78, Try.ntmps78
      go_wp2_with fail
      refine HCT.out.mono ?_
      rintro e w2 ⟨rfl, hw2⟩
      obtain rfl : w = w2 := hw2.symm
      go_wp2
      go_end0
      exact ⟨rfl, by simpa using HFIN.out⟩
  · by_cases h2 : op = 2
    · have HR : Hid (Calls Try.prog 83 #[.pointer (some ⟨b, off, none⟩), .int .i64 c, .bool bg] w fun e w' => e = .returned (.tuple #[]) ∧ PsPost B (d + 1) n ((c, bg) :: h) b off cur fp w w') := by
        have e1 : ∀ h', n.hs h' = seqHs (den n.kids) h' := by intro h'; unfold Nd.hs; rw [← hop, h2]; rfl
        have e2 : n.end ((c, bg) :: h) = rowE false (den n.kids) ((c, bg) :: h) := by show nodeE n.op n.cl (den n.kids) ((c, bg) :: h) = _; rw [← hop, h2]; rfl
        have hx := HX.out
        rw [e1] at hx
        refine (passRow_of B d HPC.out n h c bg (n.end h) b off cur fp w hb hfb hbB hfB hB hx).mono ?_
        rintro e w' ⟨r1, r2, r3, r4⟩
        refine ⟨r1, ?_, ?_, r4⟩
        · rw [e2]; exact r2
        · show NdX _ _ _ _ _ _ _ _
          rw [e1, e2]; exact r3
      clear HP hv hrd hcb hcl hkl hrow v0 v1 v2 v3 v4 hb hfb hbB hfB hB hop h1 c1 c4 f4 HND HX HH HPC
      subst h2
      go_enter Try.func78, Try.ntmps78
      go_wp2_with fail
      refine HR.out.mono ?_
      rintro e w2 ⟨rfl, hp2⟩
      have HP2 : Hid (PsPost B (d + 1) n ((c, bg) :: h) b off cur fp w w2) := hp2
      clear hp2 HR c0
      go_wp2
      go_end0
      exact ⟨rfl, HP2.out⟩
    · by_cases h35 : op = 3 ∨ op = 5
      · have HR : Hid (Calls Try.prog 84 #[.pointer (some ⟨b, off, none⟩), .int .i64 c, .bool bg] w fun e w' => e = .returned (.tuple #[]) ∧ PsPost B (d + 1) n ((c, bg) :: h) b off cur fp w w') := by
          have n4 : ¬ op = 4 := by omega
          have e1 : ∀ h', n.hs h' = List.replicate (toL n.kids).length h' := by intro h'; unfold Nd.hs; rw [← hop, if_neg h2, if_neg n4]
          have e2 : n.end ((c, bg) :: h) = anyE (den n.kids) ((c, bg) :: h) := by show nodeE n.op n.cl (den n.kids) ((c, bg) :: h) = _; unfold nodeE; rw [← hop, if_neg h1, if_neg h2, if_pos h35]
          have hx := HX.out
          refine (passEach_of B d HPC.out n h c bg (n.end h) (n.hs h) b off cur fp w hb hfb hbB hfB hB hx (e1 h)).mono ?_
          rintro e w' ⟨r1, r2, r3, r4⟩
          refine ⟨r1, ?_, ?_, r4⟩
          · rw [e2]; exact r2
          · show NdX _ _ _ _ _ _ _ _
            rw [e1, e2]; exact r3
        clear HP hv hrd hcb hcl hkl hrow v0 v1 v2 v3 v4 hb hfb hbB hfB hB hop h1 h2 c1 c4 f4 HND HX HH HPC
        rcases h35 with rfl | rfl
        all_goals
          go_enter Try.func78, Try.ntmps78
          go_wp2_with fail
          refine HR.out.mono ?_
          rintro e w2 ⟨rfl, hp2⟩
          have HP2 : Hid (PsPost B (d + 1) n ((c, bg) :: h) b off cur fp w w2) := hp2
          clear hp2 HR c0
          go_wp2
          go_end0
          exact ⟨rfl, HP2.out⟩
      · by_cases h4 : op = 4
        · obtain ⟨en, hen⟩ : ∃ en, en = n.end h := ⟨_, rfl⟩
          have HR : Hid (∀ q, q = (bg || en) → Calls Try.prog 84 #[.pointer (some ⟨b, off, none⟩), .int .i64 c, .bool q] w fun e w' => e = .returned (.tuple #[]) ∧ PsPost B (d + 1) n ((c, bg) :: h) b off cur fp w w') := by
            intro q hq
            have n35 : ¬ (op = 3 ∨ op = 5) := h35
            have e1 : ∀ h', n.hs h' = List.replicate (toL n.kids).length (starH (anyE (den n.kids)) h') := by intro h'; unfold Nd.hs; rw [← hop, if_neg h2, if_pos h4]
            have e2 : ∀ h', n.end h' = anyE (den n.kids) (starH (anyE (den n.kids)) h') := by intro h'; show nodeE n.op n.cl (den n.kids) h' = _; unfold nodeE; rw [← hop, if_neg h1, if_neg h2, if_neg n35, if_pos h4]
            have e3 : starH (anyE (den n.kids)) ((c, bg) :: h) = (c, q) :: starH (anyE (den n.kids)) h := by rw [hq, hen, e2]; rfl
            have hx := HX.out
            refine (passEach_of B d HPC.out n (starH (anyE (den n.kids)) h) c q (n.end h) (n.hs h) b off cur fp w hb hfb hbB hfB hB hx (e1 h)).mono ?_
            rintro e w' ⟨r1, r2, r3, r4⟩
            refine ⟨r1, ?_, ?_, r4⟩
            · rw [e2, e3]; exact r2
            · show NdX _ _ _ _ _ _ _ _
              rw [e1, e2, e3]; exact r3
          rw [← hen] at c4
          clear HP hv hrd hcb hcl hkl hrow v0 v1 v2 v3 v4 hb hfb hbB hfB hB hop h1 h2 h35 c1 f4 HND HX HH HPC hen
          subst h4
          cases bg
          all_goals
            go_enter Try.func78, Try.ntmps78
            go_wp2_with fail
            refine (HR.out _ (by simp)).mono ?_
            rintro e w2 ⟨rfl, hp2⟩
            have HP2 : Hid (PsPost B (d + 1) n (_ :: h) b off cur fp w w2) := hp2
            clear hp2 HR c0 c4
            go_wp2
            go_end0
            exact ⟨rfl, HP2.out⟩
        · -- what never ends
          have HFIN : Hid (PsPost B (d + 1) n ((c, bg) :: h) b off cur fp w w) := by
            have e2 : ∀ h', n.end h' = false := by intro h'; show nodeE n.op n.cl (den n.kids) h' = _; unfold nodeE; rw [← hop, if_neg h1, if_neg h2, if_neg h35, if_neg h4]
            have hp : ∀ x, cur[off + 4]? = some x → cur.setIfInBounds (off + 4) x = cur := by
              intro x hx
              apply Array.ext_getElem?
              intro j
              by_cases hj : off + 4 = j
              · subst hj; rw [Array.getElem?_setIfInBounds_self_of_lt (Array.getElem?_eq_some_iff.1 hx).1]; exact hx.symm
              · rw [Array.getElem?_setIfInBounds_ne hj]
            have hz : (toL n.kids).length = 0 ∨ n.op = 2 ∨ n.op = 3 ∨ n.op = 4 ∨ n.op = 5 := by
              by_cases hq : n.op = 2 ∨ n.op = 3 ∨ n.op = 4 ∨ n.op = 5
              · exact .inr hq
              · exact .inl (hkl.2 hq)
            have hz0 : (toL n.kids).length = 0 := by rw [← hop] at hz; omega
            have hv4 : cur[off + 4]? = some (.bool (n.end ((c, bg) :: h))) := by rw [e2, ← e2 h]; exact v4
            refine ⟨?_, ?_, Chg.refl _ _ _⟩
            · rw [hp _ hv4]; exact hb
            · rw [hp _ hv4]
              refine ⟨ca, cc, pa, pc, ?_, hrd, hcb, hcl, hkl, fun hq => absurd hq (by omega)⟩
              rw [e2, ← e2 h]; exact hv
          clear HP hv hrd hcb hcl hkl hrow v0 v1 v2 v3 v4 hb hfb hbB hfB hB hop c1 c4 f4 HND HX HH HPC
          have e3 : ¬ op = 3 := fun h => h35 (.inl h)
          have e5 : ¬ op = 5 := fun h => h35 (.inr h)
          clear h35
          go_enter Try.func78, Try.ntmps78
          go_wp2
          go_end0
          exact ⟨rfl, HFIN.out⟩
theorem pass_any (B : Nat) : (d : Nat) → PassC B d
  | 0 => fun _ _ _ _ _ _ _ _ _ _ _ _ _ _ hn => hn.elim
  | d + 1 => pass_up B d (pass_any B d)
end Go.Proofs.Ytjbhfonokgkalaa
