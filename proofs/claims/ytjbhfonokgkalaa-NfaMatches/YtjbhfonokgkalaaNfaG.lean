/- What is read of a machine; the walk of visit, which marks all that is reached without reading. -/
import Derived.Test.YtjbhfonokgkalaaNfaF
namespace Go.Proofs.Ytjbhfonokgkalaa
open Go.RowKit
set_option linter.unusedVariables false
set_option linter.unusedSimpArgs false

/-- What keeps all blocks of states, numbers and machines. -/
def Kp (w V : World) : Prop := ∀ (b : Nat) (cs : Array Value) (t : TypeId) (fr : Nat × Nat), w.heap[b]? = some (.cells cs t fr) → t = 77 ∨ t = 3 ∨ t = 66 → V.heap[b]? = w.heap[b]?
theorem Kp.of_below {w V : World} (h : Below w.heap.size w V) : Kp w V := fun b cs t fr hb _ => h.block b (Array.getElem?_eq_some_iff.1 hb).1
theorem Kp.of_grown {w V : World} {g : Nat} {cs : Array Value} {t : TypeId} {fr : Nat × Nat} (h : w.grownBy V (some g)) (hg : w.heap[g]? = some (.cells cs t fr)) (t1 : t ≠ 77) (t2 : t ≠ 3) (t3 : t ≠ 66) : Kp w V := by
  intro b cs' t' fr' hb ht
  refine h.block b (Array.getElem?_eq_some_iff.1 hb).1 (fun e => ?_)
  cases e
  rw [hg] at hb
  simp at hb
  rcases ht with ht | ht | ht
  · exact t1 (hb.2.1.trans ht)
  · exact t2 (hb.2.1.trans ht)
  · exact t3 (hb.2.1.trans ht)
theorem own_kp {w V : World} {B : Nat} {e : TypeId} {s n : Nat} {v : Value} {xs : List Value} (hk : Kp w V) (h : w.ownsRow B e s v n xs) (he : e = 77 ∨ e = 3 ∨ e = 66) : V.ownsRow B e s v n xs := by
  refine ⟨h.1, ?_⟩
  rcases h.2 with hn | ⟨g, cap, cur, hv, hb, hg, rest⟩
  · exact .inl hn
  · exact .inr ⟨g, cap, cur, hv, hb, (hk g cur _ _ hg he).trans hg, rest⟩
theorem MAt.kp {B U : Nat} {w V : World} {bm : Nat} {l : List St} {st en : Nat} (h : MAt B U w bm l st en) (hk : Kp w V) (hs : w.heap.size ≤ V.heap.size) : MAt B U V bm l st en := by
  obtain ⟨h0, h1, h2, v, h3, xs, cv, nv, h4, h5⟩ := h
  refine ⟨h0, h1, Nat.le_trans h2 hs, v, (hk bm _ _ _ h3 (.inr (.inr rfl))).trans h3, xs, cv, nv, own_kp hk h4 (.inl rfl), fun i s hi => ?_⟩
  obtain ⟨a1, a2, a3, a4, a5, a6, a7, a8⟩ := h5 i s hi
  exact ⟨a1, a2, a3, own_kp hk a4 (.inr (.inl rfl)), own_kp hk a5 (.inr (.inl rfl)), a6, a7, a8⟩
/-- Numbers of states as they are read. -/
def toI (l : List Nat) : List Int := l.map fun (t : Nat) => (t : Int)
theorem toI_map (l : List Nat) : (toI l).map (Value.int .i64) = l.map nI := by simp [toI, nI]
/-- What lies at one state, in every world that keeps the machine. -/
theorem MAt.view {B U : Nat} {w : World} {bm : Nat} {l : List St} {st en : Nat} (h : MAt B U w bm l st en) (i : Nat) (s : St) (hs : l[i]? = some s) :
    ∃ g0 c0 ca cc na nc, (∀ V : World, Kp w V → V.cell? ⟨bm, 0, none⟩ = some (.slice (some ⟨g0, 0, none⟩) l.length c0) ∧ V.cell? ⟨g0, i * 3, none⟩ = some (.bool s.reads) ∧ V.cell? ⟨g0, i * 3 + 1, none⟩ = some (.slice ca s.cl.length cc) ∧ V.cell? ⟨g0, i * 3 + 2, none⟩ = some (.slice na s.next.length nc) ∧
      Rd .i64 V ca s.cl.length s.cl ∧ Rd .i64 V na s.next.length (toI s.next)) ∧ (na = none → nc = 0) := by
  obtain ⟨h0, h1, h2, v, h3, xs, cv, nv, h4, h5⟩ := h
  obtain ⟨a1, a2, a3, a4, a5, a6, a7, a8⟩ := h5 i s hs
  have hi := (List.getElem?_eq_some_iff.1 hs).1
  obtain ⟨g0, c0, rfl⟩ : ∃ g0 c0, v = .slice (some ⟨g0, 0, none⟩) l.length c0 := by
    rcases h4.2 with ⟨_, h0⟩ | ⟨g, cap, cur, hv, _⟩
    · omega
    · exact ⟨g, cap, hv⟩
  rw [← toI_map] at a5
  obtain ⟨ca, cc, hcv, _, _, _⟩ := rd_own2 a4
  obtain ⟨na, nc, hnv, _, _, _, hnn⟩ := rd_own2 a5
  refine ⟨g0, c0, ca, cc, na, nc, fun V hV => ?_, hnn⟩
  have b4 := own_kp hV h4 (.inl rfl)
  have cell : ∀ j u, xs[j]? = some u → V.cell? ⟨g0, j, none⟩ = some u := fun j u hu => by
    have h1 := b4.cells (g := g0) rfl j _ hu
    rw [add_lit, Nat.zero_add] at h1
    exact h1
  have r4 := own_kp hV a4 (.inr (.inl rfl))
  have r5 := own_kp hV a5 (.inr (.inl rfl))
  rw [hcv] at r4
  rw [hnv] at r5
  obtain ⟨ca', cc', e1, _, _, r6, _⟩ := rd_own2 r4
  obtain ⟨na', nc', e2, _, _, r7, _⟩ := rd_own2 r5
  cases e1
  cases e2
  exact ⟨cell_of_row V bm 0 _ _ _ ((hV bm _ _ _ h3 (.inr (.inr rfl))).trans h3), cell _ _ a1, by rw [← hcv]; exact cell _ _ a2, by rw [← hnv]; exact cell _ _ a3, r6, r7⟩

/-- What visit is made of. -/
def VEnv (w : World) (bs bx bv gs bm n : Nat) : Prop :=
  (∃ cs, w.heap[bs]? = some (.cells #[.slice (some ⟨gs, 0, none⟩) n cs] 27)) ∧ w.heap[bx]? = some (.cells #[.pointer (some ⟨bm, 0, none⟩)] 44) ∧
    w.heap[bv]? = some (.cells #[.func (.func 74) #[] #[.pointer (some ⟨bs, 0, none⟩), .pointer (some ⟨bx, 0, none⟩), .pointer (some ⟨bv, 0, none⟩)]] 95)
/-- The marks. -/
def Marks (w : World) (gs : Nat) (seen : List Bool) : Prop := w.heap[gs]? = some (.cells (seen.map Value.bool).toArray 4)
theorem VEnv.kept {w V : World} {bs bx bv gs bm n : Nat} {seen : List Bool} (h : VEnv w bs bx bv gs bm n) (hm : Marks w gs seen) (hg : w.grownBy V (some gs)) : VEnv V bs bx bv gs bm n := by
  obtain ⟨⟨cs, h1⟩, h2, h3⟩ := h
  unfold Marks at hm
  refine ⟨⟨cs, ?_⟩, ?_, ?_⟩
  · refine (hg.block bs (Array.getElem?_eq_some_iff.1 h1).1 (fun e => ?_)).trans h1
    cases e; rw [hm] at h1; simp at h1
  · refine (hg.block bx (Array.getElem?_eq_some_iff.1 h2).1 (fun e => ?_)).trans h2
    cases e; rw [hm] at h2; simp at h2
  · refine (hg.block bv (Array.getElem?_eq_some_iff.1 h3).1 (fun e => ?_)).trans h3
    cases e; rw [hm] at h3; simp at h3
theorem Marks.cell {w : World} {gs : Nat} {seen : List Bool} (h : Marks w gs seen) (i : Nat) (hi : i < seen.length) : w.cell? ⟨gs, i, none⟩ = some (.bool (seen.getD i false)) ∧ w.frozen? ⟨gs, i, none⟩ = false := by
  refine ⟨?_, Lib.frozen_of_heap h i⟩
  rw [cell_of_row w gs i _ _ _ h]
  simp [hi]
theorem Marks.set {w : World} {gs : Nat} {seen : List Bool} (h : Marks w gs seen) (i : Nat) : Marks (w.setCell ⟨gs, i, none⟩ (.bool true)) gs (seen.set i true) := by
  unfold Marks
  rw [heap_setCell_same w gs i _ _ _ h]
  simp [List.map_set]
def VPost (M : List St) (a : Nat) (seen : List Bool) (gs : Nat) (w : World) (e : Ending) (w' : World) : Prop :=
  e = .returned (.tuple #[]) ∧ w.grownBy w' (some gs) ∧ ∃ seen', Vis M a seen seen' ∧ Marks w' gs seen'
def VisC (M : List St) (bm bs bx bv gs : Nat) (k : Nat) : Prop := ∀ (a : Nat) (seen : List Bool) (B U st en : Nat) (w : World), a < M.length → seen.length = M.length → unseen seen ≤ k → MAt B U w bm M st en → VEnv w bs bx bv gs bm M.length → Marks w gs seen →
  Calls Try.prog 74 #[nI a, .pointer (some ⟨bs, 0, none⟩), .pointer (some ⟨bx, 0, none⟩), .pointer (some ⟨bv, 0, none⟩)] w (VPost M a seen gs w)
theorem unseen_pos : (l : List Bool) → (i : Nat) → i < l.length → l.getD i false = false → 1 ≤ unseen l := fun l i hi h => by
  have := unseen_set l i hi h; omega
set_option maxHeartbeats 8000000 in
theorem vis_up (M : List St) (hw : WfL M) (hsz : szS M ≤ 1000000) (bm bs bx bv gs k : Nat) (HP : ∀ j, j < k → VisC M bm bs bx bv gs j) : VisC M bm bs bx bv gs k := by
  intro a seen B U st en w ha hl hu hm he hk
  have HPC : Hid (∀ j, j < k → VisC M bm bs bx bv gs j) := HP
  have HWF : Hid (WfL M) := hw
  have HM : Hid (MAt B U w bm M st en) := hm
  have HE : Hid (VEnv w bs bx bv gs bm M.length) := he
  have HK : Hid (Marks w gs seen) := hk
  obtain ⟨s, hs⟩ : ∃ s, M[a]? = some s := ⟨_, List.getElem?_eq_getElem ha⟩
  obtain ⟨g0, c0, ca, cc, na, nc, hv, hnn⟩ := hm.view a s hs
  have hml := szS_len M
  have hnx := szS_next M a s hs
  obtain ⟨n, hn⟩ : ∃ n, n = M.length := ⟨_, rfl⟩
  obtain ⟨nn, hnne⟩ : ∃ nn, nn = s.next.length := ⟨_, rfl⟩
  have hni : (n : Int) ≤ 1000000 := by omega
  have hnni : (nn : Int) ≤ 1000000 := by omega
  have hai : (a : Int) < (n : Int) := by omega
  have ha0 : (0 : Int) ≤ (a : Int) := by omega
  rw [← hn, ← hnne] at hv
  obtain ⟨⟨cs, he1⟩, he2, he3⟩ := he
  rw [← hn] at he1
  have HV : Hid (∀ V : World, w.grownBy V (some gs) → (V.cell? ⟨bm, 0, none⟩ = some (.slice (some ⟨g0, 0, none⟩) n c0) ∧ V.cell? ⟨g0, a * 3, none⟩ = some (.bool s.reads) ∧ V.cell? ⟨g0, a * 3 + 1, none⟩ = some (.slice ca s.cl.length cc) ∧ V.cell? ⟨g0, a * 3 + 2, none⟩ = some (.slice na nn nc) ∧
      Rd .i64 V ca s.cl.length s.cl ∧ Rd .i64 V na nn (toI s.next)) ∧ V.cell? ⟨bs, 0, none⟩ = some (.slice (some ⟨gs, 0, none⟩) n cs) ∧ V.cell? ⟨bx, 0, none⟩ = some (.pointer (some ⟨bm, 0, none⟩)) ∧ V.cell? ⟨bv, 0, none⟩ = some (.func (.func 74) #[] #[.pointer (some ⟨bs, 0, none⟩), .pointer (some ⟨bx, 0, none⟩), .pointer (some ⟨bv, 0, none⟩)])) := by
    intro V hV
    have ne : ∀ {b : Nat} {cc : Array Value} {t : TypeId}, w.heap[b]? = some (.cells cc t) → t ≠ 4 → V.heap[b]? = some (.cells cc t) := fun {b cc t} hb ht => (hV.block b (Array.getElem?_eq_some_iff.1 hb).1 (fun e => by
      cases e
      rw [show w.heap[gs]? = _ from hk] at hb
      simp at hb
      exact ht hb.2.symm)).trans hb
    exact ⟨hv V (Kp.of_grown hV hk (by decide) (by decide) (by decide)), cell_of_row V bs 0 _ _ _ (ne he1 (by decide)), cell_of_row V bx 0 _ _ _ (ne he2 (by decide)), cell_of_row V bv 0 _ _ _ (ne he3 (by decide))⟩
  have HL : Hid (seen.length = M.length ∧ unseen seen ≤ k ∧ n = M.length ∧ nn = s.next.length ∧ a < M.length ∧ M[a]? = some s) := ⟨hl, hu, hn, hnne, ha, hs⟩
  obtain ⟨⟨v0, v1, v2, v3, v4, v5⟩, y1, y2, y3⟩ := HV.out w ⟨rfl, rfl, rfl, Nat.le_refl _, fun _ _ _ => rfl⟩
  obtain ⟨m0, m1⟩ := hk.cell a (by omega)
  obtain ⟨b, hb⟩ : ∃ b, b = seen.getD a false := ⟨_, rfl⟩
  have HBB : Hid (b = seen.getD a false) := hb
  rw [← hb] at m0
  unfold nI
  clear HP hw hm hk hs hv hnn hml hnx hn hnne he1 he2 he3 hl hu ha v4 v5 hb hsz
  cases b with
  | true =>
    have HF : Hid (VPost M a seen gs w (.returned (.tuple #[])) w) := ⟨rfl, ⟨rfl, rfl, rfl, Nat.le_refl _, fun _ _ _ => rfl⟩, seen, vis_seen HBB.out.symm, HK.out⟩
    go_enter Try.func74, Try.ntmps74
    go_wp2
    go_end0
    exact HF.out
  | false =>
    obtain ⟨W, hW⟩ : ∃ W, W = w.setCell ⟨gs, a, none⟩ (.bool true) := ⟨_, rfl⟩
    have HG : Hid (w.grownBy W (some gs)) := by rw [hW]; exact grown_cell w gs a _
    have HMK : Hid (Marks W gs (seen.set a true)) := by rw [hW]; exact HK.out.set a
    obtain ⟨⟨z0, z1, z2, z3, _, _⟩, z4, z5, z6⟩ := HV.out W HG.out
    obtain ⟨r, hr⟩ : ∃ r, r = s.reads := ⟨_, rfl⟩
    have HR : Hid (r = s.reads) := hr
    rw [← hr] at z1 v1
    clear hr
    cases r with
    | true =>
      have HF : Hid (VPost M a seen gs w (.returned (.tuple #[])) W) := ⟨rfl, HG.out, _, vis_reads (by rw [HL.out.1]; exact HL.out.2.2.2.2.1) HL.out.2.2.2.2.2 HR.out.symm, HMK.out⟩
      go_enter Try.func74, Try.ntmps74
      go_upto_region 2 with fail
      rw [← hW]
      clear hW
      go_wp2
      go_end0
      exact HF.out
    | false =>
      go_enter Try.func74, Try.ntmps74
      go_upto_region 2 with fail
      rw [← hW]
      clear hW v0 v1 v2 v3 y1 y2 y3 m0 m1
      go_wp2
      go_loopw [31] (fun x31 wr => ∃ j : Nat, j ≤ nn ∧ x31 = .int .i64 j ∧ w.grownBy wr (some gs) ∧ ∃ sj, Viss M (s.next.take j) (seen.set a true) sj ∧ Marks wr gs sj) (fun x31 _ => nn - (intOf x31).toNat)
      case atStart => exact ⟨0, by omega, rfl, HG.out, _, Viss.nil _ _, HMK.out⟩
      case round =>
        obtain ⟨j, hj, hx31, hg, sj, hvj, hmj⟩ := hrel
        subst hx31
        have HGJ : Hid (w.grownBy wr (some gs)) := hg
        have HVJ : Hid (Viss M (s.next.take j) (seen.set a true) sj) := hvj
        have HMJ : Hid (Marks wr gs sj) := hmj
        clear hg hvj hmj z0 z1 z2 z3 z4 z5 z6
        by_cases hlt : j < nn
        · have hjn : j < s.next.length := by rw [← HL.out.2.2.2.1]; exact hlt
          obtain ⟨⟨_, _, _, _, _, u5⟩, u6, u7, u8⟩ := HV.out wr HGJ.out
          obtain ⟨nb, noff, rfl, hcl⟩ := u5.2 (by omega)
          have hcj := hcl j hlt
          rw [show (toI s.next).getD j 0 = ((s.next[j] : Nat) : Int) by simp [toI, hjn]] at hcj
          obtain ⟨t, ht⟩ : ∃ t, t = s.next[j] := ⟨_, rfl⟩
          rw [← ht] at hcj
          have HC : Hid (Calls Try.prog 74 #[nI t, .pointer (some ⟨bs, 0, none⟩), .pointer (some ⟨bx, 0, none⟩), .pointer (some ⟨bv, 0, none⟩)] wr (VPost M t sj gs wr)) := by
            obtain ⟨l1, l2, l3, l4, l5, l6⟩ := HL.out
            have hal : a < seen.length := by rw [l1]; exact l5
            have h1 := unseen_set seen a hal HBB.out.symm
            have h2 := unseen_mono (seen.set a true) sj HVJ.out.1 HVJ.out.2.1
            refine HPC.out (k - 1) (by omega) t sj B U st en wr ?_ (by rw [HVJ.out.1]; simp [l1]) (by omega) (HM.out.kp (Kp.of_grown HGJ.out HK.out (by decide) (by decide) (by decide)) HGJ.out.size) (HE.out.kept HK.out HGJ.out) HMJ.out
            rw [ht]
            exact (HWF.out a s l6).1 _ (List.getElem_mem hjn)
          have HT : Hid (s.next.take (j + 1) = s.next.take j ++ [t]) := by rw [ht]; exact take_snoc _ j hjn
          clear hcl u5 ht
          unfold nI at HC
          go_wp2_with fail
          refine HC.out.mono ?_
          rintro e w2 ⟨rfl, hg2, s2, hv2, hm2⟩
          have HG2 : Hid (w.grownBy w2 (some gs)) := grown_all HGJ.out hg2
          have HV2 : Hid (Viss M (s.next.take (j + 1)) (seen.set a true) s2) := by
            show Viss _ _ _ _
            rw [HT.out]; exact HVJ.out.snoc hv2
          have HM2 : Hid (Marks w2 gs s2) := hm2
          clear hg2 hv2 hm2 hcj u6 u7 u8 HC
          go_wp2
          go_roundw
          case rel => exact ⟨j + 1, by omega, by go_num, HG2.out, s2, HV2.out, HM2.out⟩
          case measure => simp [intOf]; omega
        · have HF : Hid (VPost M a seen gs w (.returned (.tuple #[])) wr) := by
            obtain ⟨l1, l2, l3, l4, l5, l6⟩ := HL.out
            refine ⟨rfl, HGJ.out, sj, ?_, HMJ.out⟩
            have h1 := HVJ.out
            rw [List.take_of_length_le (by omega)] at h1
            exact vis_goes (by rw [l1]; exact l5) l6 HR.out.symm h1
          go_wp2
          go_end0
          exact HF.out
theorem vis_any (M : List St) (hw : WfL M) (hsz : szS M ≤ 1000000) (bm bs bx bv gs k : Nat) : VisC M bm bs bx bv gs k := by
  induction k using Nat.strongRecOn with
  | _ k ih => exact vis_up M hw hsz bm bs bx bv gs k ih
end Go.Proofs.Ytjbhfonokgkalaa
