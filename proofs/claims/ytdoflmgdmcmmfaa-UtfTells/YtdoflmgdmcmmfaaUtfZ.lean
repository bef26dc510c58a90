/- Walks of the reference: Begins, First, Tail, Decode, Encode. -/
import Derived.Test.YtdoflmgdmcmmfaaUtfY
namespace Go.Proofs.Ytdoflmgdmcmmfaa
open Go.RowKit
set_option linter.unusedVariables false

theorem str_some (bs : List Int) (h : 1 ≤ bs.length) : (strOfNums bs).toList.isEmpty = false := by
  rw [Lib.toList_data, strOfNums_data]
  cases bs with
  | nil => simp at h
  | cons x r => rfl
theorem str_none : (strOfNums []).toList.isEmpty = true := by
  rw [Lib.toList_data, strOfNums_data]; rfl
theorem add_str (xs ys : List Int) (h : xs.length + ys.length ≤ 100000000000) (W : World) : (Op.stringOp .add (strOfNums xs) (strOfNums ys)).run Try.prog W = .ok (.string (strOfNums (xs ++ ys))) W := by
  rw [run_string_add_sum W _ _ (by rw [strOfNums_size, strOfNums_size]; omega)]
  congr 2
  apply str_ext
  simp [strOfNums]

theorem begins_long (bs : List Int) (w : World) (h : 3 < bs.length) (hl : bs.length ≤ 100000000000) :
    Calls Try.prog 26 #[.string (strOfNums bs)] w fun e w' => e = .returned (.bool false) ∧ Below w.heap.size w w' := by
  have hsz := strOfNums_size bs
  have he := str_some bs (by omega)
  go_enter Try.func26, Try.ntmps26
  go_wp2
  go_ret
  exact ⟨rfl, Below.refl _ _⟩

/-- What a round of Begins tells. -/
def bgf (d : Nat) (bs : List Int) (b : Int) : Bool := (whl (bs ++ [b])).isSome || bg d (bs ++ [b])
theorem bg_bgf (d : Nat) (bs : List Int) : bg (d + 1) bs = six.any (bgf d bs) := rfl
theorem any_take (p : Int → Bool) (l : List Int) (k : Nat) (h : k < l.length) : (l.take (k + 1)).any p = ((l.take k).any p || p (l.getD k 0)) := by
  rw [take_snoc_int l k h]; simp
theorem any_yes (p : Int → Bool) (l : List Int) (k : Nat) (h : k < l.length) (hp : p (l.getD k 0) = true) : l.any p = true := by
  rw [List.any_eq_true]; exact ⟨l.getD k 0, by simp [h], hp⟩
theorem six_rng (k : Nat) (h : k < 6) : 0 ≤ six.getD k 0 ∧ six.getD k 0 ≤ 255 := by
  rcases (by omega : k = 0 ∨ k = 1 ∨ k = 2 ∨ k = 3 ∨ k = 4 ∨ k = 5) with rfl | rfl | rfl | rfl | rfl | rfl <;> decide

set_option maxHeartbeats 2000000 in
theorem begins_step (d : Nat) (bs : List Int) (w : World) (h1 : 1 ≤ bs.length) (hd : bs.length + (d + 1) = 4) (hr : ∀ y ∈ bs, 0 ≤ y ∧ y ≤ 255)
    (ih : ∀ (t : List Int) (W : World), t.length + d = 4 → (∀ y ∈ t, 0 ≤ y ∧ y ≤ 255) → Calls Try.prog 26 #[.string (strOfNums t)] W fun e w' => e = .returned (.bool (bg d t)) ∧ Below W.heap.size W w') :
    Calls Try.prog 26 #[.string (strOfNums bs)] w fun e w' => e = .returned (.bool (bg (d + 1) bs)) ∧ Below w.heap.size w w' := by
  have hsz := strOfNums_size bs
  have he := str_some bs h1
  have hl3 : bs.length ≤ 3 := by omega
  have HR : Hid (∀ y ∈ bs, 0 ≤ y ∧ y ≤ 255) := hr
  have IH : Hid (∀ (t : List Int) (W : World), t.length + d = 4 → (∀ y ∈ t, 0 ≤ y ∧ y ≤ 255) → Calls Try.prog 26 #[.string (strOfNums t)] W fun e w' => e = .returned (.bool (bg d t)) ∧ Below W.heap.size W w') := ih
  obtain ⟨G, hG⟩ : ∃ G, G = bg (d + 1) bs := ⟨_, rfl⟩
  rw [← hG]
  have HG : Hid (G = six.any (bgf d bs)) := hG
  have HB0 : Hid (∀ cs : Array Value, cs.toList = six.map (Value.int .u8) → Rd .u8 (w.alloc (.cells cs 5)) (some ⟨w.heap.size, 0, none⟩) 6 six) := fun cs hcs => rd_block w six cs 5 hcs _ rfl 6 rfl
  clear hr ih hG
  go_enter Try.func26, Try.ntmps26
  go_wp2
  have HRS := HB0.out #[.int .u8 128, .int .u8 143, .int .u8 144, .int .u8 159, .int .u8 160, .int .u8 191] rfl
  obtain ⟨w0, hw0⟩ : ∃ w0, w0 = w.alloc (.cells #[.int .u8 128, .int .u8 143, .int .u8 144, .int .u8 159, .int .u8 160, .int .u8 191] 5) := ⟨_, rfl⟩
  have hz0 : w0.heap.size = w.heap.size + 1 := by rw [hw0]; simp
  have HBW : Hid (Below w.heap.size w w0) := by rw [hw0]; exact (Below.refl _ w).alloc (Nat.le_refl _) _
  rw [← hw0] at HRS ⊢
  have HR0 : Hid (Rd .u8 w0 (some ⟨w.heap.size, 0, none⟩) 6 six) := HRS
  clear HRS hw0 HB0
  go_loopw [18] (fun i wr => ∃ k : Nat, k ≤ 6 ∧ i = .int .i64 k ∧ (six.take k).any (bgf d bs) = false ∧ Below w0.heap.size w0 wr) (fun i _ => 6 - (intOf i).toNat)
  case atStart => exact ⟨0, by omega, rfl, rfl, Below.refl _ _⟩
  case round =>
    obtain ⟨k, hk, rfl, hany, hbr⟩ := hrel
    have HA : Hid ((six.take k).any (bgf d bs) = false) := hany
    have HBR : Hid (Below w0.heap.size w0 wr) := hbr
    have HBX : Hid (Below w.heap.size w wr) := HBW.out.trans (HBR.out.mono HBW.out.size)
    clear hany hbr
    by_cases hlt : k < 6
    · obtain ⟨bb, oo, hbo, hcl⟩ := (HR0.out.later HBR.out).2 (by omega)
      cases hbo
      have hcc := hcl k hlt
      have hbr6 := six_rng k hlt
      obtain ⟨b, hbd⟩ : ∃ b, b = six.getD k 0 := ⟨_, rfl⟩
      rw [← hbd] at hcc hbr6
      have hcc' : wr.cell? ⟨w.heap.size, k, none⟩ = some (.int .u8 b) := by simpa using hcc
      have HBD : Hid (b = six.getD k 0) := hbd
      have hcv := conv_str (w := wr.alloc (.cells #[.int .u8 b] 5)) (cap := 1) (rd_one .u8 wr b 5 _ rfl)
      have hadd := add_str bs [b] (by simp; omega)
      have hsz2 : (strOfNums (bs ++ [b])).size = bs.length + 1 := by rw [strOfNums_size]; simp
      have HRT : Hid (∀ y ∈ bs ++ [b], 0 ≤ y ∧ y ≤ 255) := fun y hy => (List.mem_append.1 hy).elim (HR.out y) (fun h => by simp at h; rw [h]; exact hbr6)
      have HBA : Hid (∀ o : Obj, Below wr.heap.size wr (wr.alloc o)) := fun o => (Below.refl _ wr).alloc (Nat.le_refl _) o
      have hszr := HBR.out.size
      clear hcc hcl hbd hbr6
      cases hw : whl (bs ++ [b]) with
      | some c =>
        have HW : Hid (whl (bs ++ [b]) = some c) := hw
        clear hw
        go_wp2_with fail
        refine (whole_some (bs ++ [b]) c _ HRT.out HW.out).mono ?_
        rintro e w1 ⟨rfl, hb1⟩
        have HB1 : Hid (Below wr.heap.size wr w1) := (HBA.out _).trans (hb1.mono (by simp))
        clear hb1
        go_wp2
        go_ret
        refine ⟨ret_bool ?_, ?_⟩
        · rw [HG.out]; exact (any_yes (bgf d bs) six k hlt (by rw [← HBD.out]; simp [bgf, HW.out])).symm
        · exact HBX.out.trans (HB1.out.mono HBX.out.size)
      | none =>
        have HW : Hid (whl (bs ++ [b]) = none) := hw
        clear hw
        cases d with
        | zero =>
          have hlen3 : bs.length = 3 := by omega
          have HBF : Hid (bgf 0 bs b = false) := by show bgf 0 bs b = false; simp [bgf, HW.out, bg]
          have hlt4 : ¬ (bs.length + 1 < 4) := by omega
          go_wp2_with fail
          refine (whole_none (bs ++ [b]) _ HRT.out (by simp; omega) HW.out).mono ?_
          rintro e w1 ⟨rfl, hb1⟩
          have HB1 : Hid (Below wr.heap.size wr w1) := (HBA.out _).trans (hb1.mono (by simp))
          clear hb1 hlen3
          go_wp2
          go_roundw
          case rel => exact ⟨k + 1, by omega, by go_num, by rw [any_take _ six k hlt, HA.out, ← HBD.out, HBF.out]; rfl, HBR.out.trans (HB1.out.mono hszr)⟩
          case measure => simp [intOf]; omega
        | succ d' =>
          have hlt4 : bs.length + 1 < 4 := by omega
          obtain ⟨g, hg⟩ : ∃ g, g = bg (d' + 1) (bs ++ [b]) := ⟨_, rfl⟩
          have HGG : Hid (g = bg (d' + 1) (bs ++ [b])) := hg
          have HBF : Hid (bgf (d' + 1) bs b = g) := by show bgf (d' + 1) bs b = g; rw [hg]; simp [bgf, HW.out]
          clear hg
          go_wp2_with fail
          refine (whole_none (bs ++ [b]) _ HRT.out (by simp; omega) HW.out).mono ?_
          rintro e w1 ⟨rfl, hb1⟩
          have HB1 : Hid (Below wr.heap.size wr w1) := (HBA.out _).trans (hb1.mono (by simp))
          clear hb1
          go_wp2_with fail
          refine (IH.out (bs ++ [b]) _ (by simp; omega) HRT.out).mono ?_
          rw [← HGG.out]
          rintro e w2 ⟨rfl, hb2⟩
          have HB2 : Hid (Below wr.heap.size wr w2) := HB1.out.trans (hb2.mono HB1.out.size)
          clear hb2
          cases g with
          | true =>
            go_wp2
            go_ret
            refine ⟨ret_bool ?_, HBX.out.trans (HB2.out.mono HBX.out.size)⟩
            rw [HG.out]; exact (any_yes (bgf (d' + 1) bs) six k hlt (by rw [← HBD.out]; exact HBF.out)).symm
          | false =>
            go_wp2
            go_roundw
            case rel => exact ⟨k + 1, by omega, by go_num, by rw [any_take _ six k hlt, HA.out, ← HBD.out, HBF.out]; rfl, HBR.out.trans (HB2.out.mono hszr)⟩
            case measure => simp [intOf]; omega
    · go_wp2
      go_ret
      exact ⟨ret_bool (by rw [HG.out]; have := HA.out; rw [List.take_of_length_le (by show (6 : Nat) ≤ k; omega)] at this; exact this.symm), HBX.out⟩

theorem begins_rec : (d : Nat) → (bs : List Int) → (w : World) → bs.length + d = 4 → 1 ≤ bs.length → (∀ y ∈ bs, 0 ≤ y ∧ y ≤ 255) →
    Calls Try.prog 26 #[.string (strOfNums bs)] w fun e w' => e = .returned (.bool (bg d bs)) ∧ Below w.heap.size w w'
  | 0, bs, w, hd, _, _ => by
    have := begins_long bs w (by omega) (by omega)
    exact this
  | d + 1, bs, w, hd, h1, hr => begins_step d bs w h1 hd hr (fun t W ht htr => begins_rec d t W ht (by omega) htr)

/-- Begins, of any bytes. -/
theorem rbegins_any (bs : List Int) (w : World) (h1 : 1 ≤ bs.length) (hl : bs.length ≤ 100000000000) (hr : ∀ y ∈ bs, 0 ≤ y ∧ y ≤ 255) :
    Calls Try.prog 26 #[.string (strOfNums bs)] w fun e w' => e = .returned (.bool (decide ((first bs).2.2 = 6))) ∧ Below w.heap.size w w' := by
  by_cases h3 : bs.length ≤ 3
  · rw [← bg_iff bs h1 h3 hr]
    exact begins_rec (4 - bs.length) bs w (by omega) h1 hr
  · have hn : decide ((first bs).2.2 = 6) = false := by
      rw [decide_eq_false_iff_not]; intro h; have := first_six_len bs hr h; omega
    rw [hn]
    exact begins_long bs w (by omega) hl
end Go.Proofs.Ytdoflmgdmcmmfaa
