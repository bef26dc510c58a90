/- The walk of Boundaries of the reference of reading. -/
import Derived.Test.YtjbhfonokgkalaaReaRc
namespace Go.Proofs.Ytjbhfonokgkalaa
open Go.RowKit
set_option linter.unusedVariables false
set_option linter.unusedSimpArgs false

/-- What is told of places, those ahead of one by one rule more. -/
def mixB (l : List Rl) (xs : List Int) (i p : Nat) : List Bool := (List.range (xs.length + 1)).map fun j => if j < p then boundAt (l.drop i) xs j else boundAt (l.drop (i + 1)) xs j
theorem mixB_len (l : List Rl) (xs : List Int) (i p : Nat) : (mixB l xs i p).length = xs.length + 1 := by simp [mixB]
theorem bound_end (l l' : List Rl) (xs : List Int) (j : Nat) (h : j = 0 ∨ j = xs.length) : boundAt l xs j = boundAt l' xs j := by
  unfold boundAt; rw [if_pos h, if_pos h]
theorem mixB_begin (l : List Rl) (xs : List Int) (i : Nat) : mixB l xs i 1 = boundL (l.drop (i + 1)) xs := by
  unfold mixB boundL
  apply List.map_congr_left
  intro j _
  split
  · exact bound_end _ _ _ _ (by omega)
  · rfl
theorem mixB_all (l : List Rl) (xs : List Int) (i p : Nat) (h : xs.length ≤ p) : mixB l xs i p = boundL (l.drop i) xs := by
  unfold mixB boundL
  apply List.map_congr_left
  intro j hj
  rw [List.mem_range] at hj
  split
  · rfl
  · exact bound_end _ _ _ _ (by omega)
theorem bound_step (l : List Rl) (xs : List Int) (i p : Nat) (hi : i < l.length) (h0 : 0 < p) (h1 : p < xs.length) : boundAt (l.drop i) xs p = if l[i].fit xs p then l[i].brk else boundAt (l.drop (i + 1)) xs p := by
  unfold boundAt
  have hn : ¬ (p = 0 ∨ p = xs.length) := by omega
  rw [if_neg hn, if_neg hn, List.drop_eq_getElem_cons hi]
  rfl
theorem mixB_set (l : List Rl) (xs : List Int) (i p : Nat) (hp : p ≤ xs.length) (b : Bool) (hb : b = boundAt (l.drop i) xs p) : (mixB l xs i p).set p b = mixB l xs i (p + 1) := by
  apply List.ext_getElem?
  intro j
  rw [List.getElem?_set]
  have hl := mixB_len l xs i p
  split
  · rename_i h
    subst h
    rw [if_pos (by omega), hb]
    unfold mixB
    rw [List.getElem?_map, List.getElem?_range (by omega)]
    simp
  · rename_i h
    unfold mixB
    rw [List.getElem?_map, List.getElem?_map]
    rcases Nat.lt_or_ge j (xs.length + 1) with hj | hj
    · rw [List.getElem?_range hj]
      simp only [Option.map_some]
      congr 1
      by_cases h2 : j < p
      · rw [if_pos h2, if_pos (by omega)]
      · rw [if_neg h2, if_neg (by omega)]
    · rw [List.getElem?_eq_none (by simpa using hj)]
      rfl
theorem mixB_same (l : List Rl) (xs : List Int) (i p : Nat) (h : boundAt (l.drop i) xs p = boundAt (l.drop (i + 1)) xs p) : mixB l xs i p = mixB l xs i (p + 1) := by
  unfold mixB
  apply List.map_congr_left
  intro j _
  by_cases h2 : j < p
  · rw [if_pos h2, if_pos (by omega)]
  · by_cases h3 : j = p
    · subst h3
      rw [if_neg h2, if_pos (by omega), h]
    · rw [if_neg h2, if_neg (by omega)]
theorem own_blk {w : World} {B : Nat} {e : TypeId} {n : Nat} {a : Option Addr} {cap : Nat} {vs : List Value} (h : w.ownsRow B e 1 (.slice a n cap) n vs) (hn : 0 < n) : ∃ g, a = some ⟨g, 0, none⟩ ∧ B ≤ g := by
  obtain ⟨g, h1, h2, _⟩ := own_cells1 h hn
  exact ⟨g, h1, h2⟩
theorem bound_all (xs : List Int) (m : Nat) (hm : m = xs.length + 1) : List.replicate m (decide (0 < xs.length)) = boundL [] xs := by
  subst hm
  apply List.ext_getElem
  · simp [boundL]
  · intro i h1 h2
    simp only [List.getElem_replicate, boundL, List.getElem_map, List.getElem_range]
    rw [bound_none xs i (by simp at h1; omega)]
set_option maxRecDepth 100000 in
set_option maxHeartbeats 16000000 in
theorem boundR_any (D : Nat) (l : List Rl) (xs : List Int) (al a : Option Addr) (n c len cap : Nat) (w : World) (hrow : RowR w D al n l) (hn : n ≤ 1000) (hrd : Rd .i64 w a len xs) (hl : len ≤ 100) :
    Calls Try.prog 13 #[.slice al n c, .slice a len cap] w (BoPost (boundL l xs) (len + 1) w) := by
  obtain ⟨m, hm⟩ : ∃ m, m = len + 1 := ⟨_, rfl⟩
  have HL : Hid (xs.length = len ∧ m = len + 1 ∧ l.length = n) := ⟨hrd.1, hm, hrow.1⟩
  have HD : Hid (RowR w D al n l) := hrow
  have HWH : Hid (∀ (V : World) (r : Rl) (q : RlP), Below w.heap.size w V → RlAt V D r q → Calls Try.prog 41 #[.agg (r.vals q), .slice a len cap] V (BoPost (ruleL r xs) m V)) := fun V r q hV hr => by rw [hm]; exact where_any D r q xs a len cap V hr (hrd.later hV) hl
  obtain ⟨pos, hpos⟩ : ∃ pos, pos = decide (0 < len) := ⟨_, rfl⟩
  have HALL : Hid (Calls Try.prog 40 #[.int .i64 (len : Int), .bool pos] w (BoPost (List.replicate m pos) m w)) := by rw [hm]; exact all_any len pos w (by omega)
  have HBA : Hid (List.replicate m pos = boundL (l.drop n) xs) := by
    show _ = _
    rw [List.drop_eq_nil_of_le (by rw [hrow.1]; exact Nat.le_refl _), hpos, ← hrd.1]
    exact bound_all xs m (by rw [hrd.1]; exact hm)
  rw [← hm]
  have hli : (len : Int) ≤ 100 := by omega
  have hni : (n : Int) ≤ 1000 := by omega
  have hm0 : 0 < m := by omega
  have hmu : (m : Int) ≤ 101 := by omega
  have HMLI : Hid ((m : Int) = (len : Int) + 1) := by show (m : Int) = (len : Int) + 1; omega
  have hp2 : decide (0 < len) = pos := hpos.symm
  clear hrow hrd hl hm hpos
  go_enter Try.func13, Try.ntmps13
  go_wp2_with fail
  refine HALL.out.mono ?_
  rintro e w1 ⟨v1, rfl, ho1, hb1⟩
  obtain ⟨av, cv, rfl⟩ := own_sl1 ho1
  obtain ⟨g, rfl, hgb⟩ := own_blk ho1 hm0
  rw [HBA.out] at ho1
  have HO1 : Hid (w1.ownsRow w.heap.size 4 1 (.slice (some ⟨g, 0, none⟩) m cv) m ((boundL (l.drop n) xs).map Value.bool) ∧ Below w.heap.size w w1) := ⟨ho1, hb1⟩
  have HGB : Hid (w.heap.size ≤ g) := hgb
  clear ho1 hb1 hgb HALL hp2
  go_wp2
  go_loopw [7, 8, 9] (fun x7 _ _ wr => ∃ i : Nat, i ≤ n ∧ x7 = .int .i64 ((i : Int) - 1) ∧ wr.ownsRow w.heap.size 4 1 (.slice (some ⟨g, 0, none⟩) m cv) m ((boundL (l.drop i) xs).map Value.bool) ∧ Below w.heap.size w wr) (fun x7 _ _ _ => (intOf x7 + 1).toNat)
  case atStart => exact ⟨n, by omega, by go_num, HO1.out.1, HO1.out.2⟩
  case round =>
    obtain ⟨wo, hwo⟩ : ∃ W : World, W = wr := ⟨_, rfl⟩
    subst hwo
    obtain ⟨i, hi, hx7, ho, hbl⟩ := hrel
    subst hx7
    have HO : Hid (wo.ownsRow w.heap.size 4 1 (.slice (some ⟨g, 0, none⟩) m cv) m ((boundL (l.drop i) xs).map Value.bool)) := ho
    have HBL : Hid (Below w.heap.size w wo) := hbl
    clear ho hbl HO1
    rcases Nat.eq_zero_or_pos i with h0 | h0
    · subst h0
      have hm1 : decide (((0 : Nat) : Int) - 1 ≥ 0) = false := by simp
      have HF : Hid (BoPost (boundL l xs) m w (.returned (.slice (some ⟨g, 0, none⟩) m cv)) wo) := ⟨_, rfl, by have := HO.out; rw [List.drop_zero] at this; exact this, HBL.out⟩
      go_wp2
      go_ret
      exact HF.out
    · obtain ⟨j, hj⟩ : ∃ j : Nat, j + 1 = i := ⟨i - 1, by omega⟩
      have hji : (i : Int) - 1 = (j : Int) := by omega
      rw [hji]
      have hjl : j < l.length := by rw [HL.out.2.2]; omega
      have hjn : (j : Int) < (n : Int) := by omega
      have hj0 : (0 : Int) ≤ (j : Int) := by omega
      rw [← hj] at HO
      have HJI : Hid (j + 1 = i) := hj
      clear hji hj
      obtain ⟨b, off, q, rfl, hr, t0, t1, t2, t3, t4, t5, t6, t7⟩ := (HD.out.later HBL.out).cells j hjl
      have HCC : Hid (Calls Try.prog 41 #[.agg (l[j].vals q), .slice a len cap] wo (BoPost (ruleL l[j] xs) m wo)) := HWH.out wo l[j] q HBL.out hr
      obtain ⟨r, hrr⟩ : ∃ r, r = l[j] := ⟨_, rfl⟩
      rw [← hrr] at t0 t1 t2 t3 t4 t5 t6 t7 HCC
      have HRR : Hid (r = l[j]) := hrr
      obtain ⟨la, lc, lp, lpc, ra, rc, rp, rpc⟩ := q
      obtain ⟨lo, hlo⟩ : ∃ lo, lo = r.left.op := ⟨_, rfl⟩
      obtain ⟨ln, hln⟩ : ∃ ln, ln = r.left.cl.length := ⟨_, rfl⟩
      obtain ⟨lk, hlk⟩ : ∃ lk, lk = (toL r.left.kids).length := ⟨_, rfl⟩
      obtain ⟨ro, hro⟩ : ∃ ro, ro = r.right.op := ⟨_, rfl⟩
      obtain ⟨rn, hrn⟩ : ∃ rn, rn = r.right.cl.length := ⟨_, rfl⟩
      obtain ⟨rk, hrk⟩ : ∃ rk, rk = (toL r.right.kids).length := ⟨_, rfl⟩
      obtain ⟨st, hst⟩ : ∃ st, st = r.start := ⟨_, rfl⟩
      obtain ⟨br, hbr⟩ : ∃ br, br = r.brk := ⟨_, rfl⟩
      have HBR : Hid (br = r.brk) := hbr
      simp only [Rl.vals, ← hlo, ← hln, ← hlk, ← hro, ← hrn, ← hrk, ← hst, ← hbr] at HCC t0 t1 t2 t3 t4 t5 t6 t7
      have HT6 : Hid (∀ V : World, Below w.heap.size w V → V.cell? ⟨b, off + j * 8 + 6, none⟩ = some (.bool br)) := by
        intro V hV
        obtain ⟨b', off', q', he, _, _, _, _, _, _, _, u6, _⟩ := (HD.out.later hV).cells j hjl
        cases he
        rw [HBR.out, HRR.out]
        exact u6
      clear hr hrr hlo hln hlk hro hrn hrk hst hbr
      go_wp2_with fail
      refine HCC.out.mono ?_
      rintro e w2 ⟨v2, rfl, ho2, hb2⟩
      obtain ⟨a2, c2, rfl⟩ := own_sl1 ho2
      obtain ⟨y, rfl, hyb⟩ := own_blk ho2 hm0
      have HW2 : Hid (w2.ownsRow wo.heap.size 4 1 (.slice (some ⟨y, 0, none⟩) m c2) m ((ruleL r xs).map Value.bool)) := ho2
      have hgo : g < wo.heap.size := by
        have := HO.out.lt g rfl
        exact this.2
      have hyg : y ≠ g := by omega
      have HO2 : Hid (w2.ownsRow w.heap.size 4 1 (.slice (some ⟨g, 0, none⟩) m cv) m ((mixB l xs j 1).map Value.bool)) := by
        show World.ownsRow _ _ _ _ _ _ _
        rw [mixB_begin]
        exact own_later5 HO.out hb2
      have HB2 : Hid (Below w.heap.size w w2) := HBL.out.trans (hb2.mono HBL.out.size)
      clear ho2 hb2 hyb HCC t0 t1 t2 t3 t4 t5 t6 t7
      go_wp2
      go_loopw [9] (fun x9 wr => ∃ p : Nat, 1 ≤ p ∧ (p ≤ len ∨ p = 1) ∧ x9 = .int .i64 p ∧ wr.ownsRow w.heap.size 4 1 (.slice (some ⟨g, 0, none⟩) m cv) m ((mixB l xs j p).map Value.bool) ∧ wr.ownsRow wo.heap.size 4 1 (.slice (some ⟨y, 0, none⟩) m c2) m ((ruleL r xs).map Value.bool) ∧ Below w.heap.size w wr) (fun x9 _ => len - (intOf x9).toNat)
      case atStart => exact ⟨1, by omega, .inr rfl, rfl, HO2.out, HW2.out, HB2.out⟩
      case round =>
        obtain ⟨p, hp1, hp2, hx9, hop, hwp, hbp⟩ := hrel
        subst hx9
        have HOP : Hid (wr.ownsRow w.heap.size 4 1 (.slice (some ⟨g, 0, none⟩) m cv) m ((mixB l xs j p).map Value.bool)) := hop
        have HWP : Hid (wr.ownsRow wo.heap.size 4 1 (.slice (some ⟨y, 0, none⟩) m c2) m ((ruleL r xs).map Value.bool)) := hwp
        have HBP : Hid (Below w.heap.size w wr) := hbp
        clear hop hwp hbp HO2 HW2
        by_cases hlt : p < len
        · have hpi : (p : Int) < (len : Int) := by omega
          have hmli := HMLI.out
          have hpm : (p : Int) < (m : Int) := by omega
          have hp0 : (0 : Int) ≤ (p : Int) := by omega
          obtain ⟨a', c', he, _, _, hrw⟩ := rdT_own HWP.out
          cases he
          obtain ⟨by', oy, hey, hcy⟩ := hrw.2 hm0
          cases hey
          have z1 := hcy p (by omega)
          rw [Nat.zero_add, ruleL_get r xs p (by rw [HL.out.1]; omega)] at z1
          obtain ⟨f, hf⟩ : ∃ f, f = r.fit xs p := ⟨_, rfl⟩
          rw [← hf] at z1
          have hst := bound_step l xs j p hjl (by omega) (by rw [HL.out.1]; exact hlt)
          rw [← HRR.out, ← hf, ← HBR.out] at hst
          clear hrw hcy hf hmli
          cases f with
          | false =>
            have HN : Hid (wr.ownsRow w.heap.size 4 1 (.slice (some ⟨g, 0, none⟩) m cv) m ((mixB l xs j (p + 1)).map Value.bool)) := by
              show World.ownsRow _ _ _ _ _ _ _
              rw [← mixB_same l xs j p (by rw [hst]; rfl)]
              exact HOP.out
            clear hst
            go_wp2
            go_roundw
            case rel => exact ⟨p + 1, by omega, by omega, by go_num, HN.out, HWP.out, HBP.out⟩
            case measure => simp [intOf]; omega
          | true =>
            obtain ⟨g2, hg2, _, cur, hcur, hcell⟩ := own_cells1 HOP.out hm0
            have hgg : g = g2 := by simpa using hg2
            have hml2 := HMLI.out
            have t3 := hcell p (by omega)
            obtain ⟨z, hz⟩ : ∃ z, ((mixB l xs j p).map Value.bool)[p]? = some (.bool z) := get_bool _ p m (by have := HOP.out.1; omega) (by omega)
            rw [hz] at t3
            have hfz := Lib.frozen_of_heap hcur
            rw [← hgg] at t3 hfz
            have t6 := HT6.out wr HBP.out
            have HN : Hid ((wr.setCell ⟨g, p, none⟩ (.bool br)).ownsRow w.heap.size 4 1 (.slice (some ⟨g, 0, none⟩) m cv) m ((mixB l xs j (p + 1)).map Value.bool) ∧ (wr.setCell ⟨g, p, none⟩ (.bool br)).ownsRow wo.heap.size 4 1 (.slice (some ⟨y, 0, none⟩) m c2) m ((ruleL r xs).map Value.bool) ∧ Below w.heap.size w (wr.setCell ⟨g, p, none⟩ (.bool br))) := by
              refine ⟨?_, own_same HWP.out (fun y' hy' => Below.heap_setCell _ _ _ _ (fun e => ?_)), HBP.out.setCell (p := ⟨g, p, none⟩) HGB.out _⟩
              · have h1 := own_set1 HOP.out p (.bool br)
                rw [← mixB_set l xs j p (by rw [HL.out.1]; omega) br (by rw [hst]; rfl), List.map_set]
                exact h1
              · injection hy' with hy'
                apply hyg
                exact (show y = y' from hy').trans e
            clear hst hcell hcur hz hg2 hgg hml2
            go_wp2
            go_roundw
            case rel => exact ⟨p + 1, by omega, by omega, by go_num, HN.out.1, HN.out.2.1, HN.out.2.2⟩
            case measure => simp [intOf]; omega
        · have hpi : ¬ (p : Int) < (len : Int) := by omega
          have HN : Hid (wr.ownsRow w.heap.size 4 1 (.slice (some ⟨g, 0, none⟩) m cv) m ((boundL (l.drop j) xs).map Value.bool)) := by
            show World.ownsRow _ _ _ _ _ _ _
            rw [← mixB_all l xs j p (by rw [HL.out.1]; omega)]
            exact HOP.out
          go_wp2
          go_roundw
          case rel => exact ⟨j, by omega, by go_num, HN.out, HBP.out⟩
          case measure => have := HJI.out; first | (simp [intOf]; done) | (simp [intOf]; omega)
end Go.Proofs.Ytjbhfonokgkalaa
