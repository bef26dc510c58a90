/- The walks of the texts of an Errno and of a *Fault. -/
import Derived.Test.YtchdklbekfdgdabGreatDoorPropsDc
import Derived.Test.YtchdklbekfdgdabGreatDoorShelfF
import Derived.Shelf.Strconv.Itoa3
namespace Go.Proofs.YtchdklbekfdgdabGreatDoor
open Go.RowKit Go.Sort
set_option linter.unusedVariables false

/-- The table that Itoa reads. -/
def Tab (w : World) : Prop := Lib.TabIs Tryz.prog w "internal/strconv.uint64pow10" .u64 Lib.pow10Tab
theorem Tab.later {w w' : World} (h : Tab w) (hb : RowKit.Below w.heap.size w w') : Tab w' := by
  unfold Tab Lib.TabIs World.var? at *
  cases hg : Tryz.prog.globalNamed "internal/strconv.uint64pow10" with
  | none => rw [hg] at h; simp at h
  | some g =>
    rw [hg] at h
    simp only [Option.bind_some] at h ⊢
    cases hc : w.heap[g]? with
    | none => rw [hc] at h; simp at h
    | some o =>
      rw [hb.block g (Array.getElem?_eq_some_iff.1 hc).1]
      exact h
theorem itoa_str (n : Nat) : (⟨(Lib.itoa (n : Int)).toArray⟩ : ByteArray) = strOfNums (decN n) := by
  apply str_ext
  rw [strOfNums_data, Lib.itoa_nonneg]
  unfold decN
  have e : ((fun n : Int => UInt8.ofNat n.toNat) ∘ fun b : UInt8 => (b.toNat : Int)) = id := by funext b; simp
  rw [List.map_map, e]
  simp
theorem itoa_any (n : Nat) (hn : n ≤ 65535) (w : World) (ht : Tab w) :
    Calls Tryz.prog 15 #[.int .i64 n] w fun e w' => e = .returned (.string (strOfNums (decN n))) ∧ RowKit.Below w.heap.size w w' := by
  have h : Calls Tryz.prog 15 #[.int .i64 n] w _ := Any.strconv_Itoa Tryz.lays171 (n : Int) (by omega) (by omega) w ht
  refine h.mono ?_
  rintro e w' ⟨rfl, k, os, rfl⟩
  exact ⟨by rw [itoa_str], below_grow w k os⟩
theorem decN_len (n : Nat) (hn : n ≤ 65535) : (decN n).length ≤ 100 := by
  have h : ∀ (k u : Nat), u < 10 ^ (k + 1) → (decN u).length ≤ k + 1 := by
    intro k
    induction k with
    | zero => intro u hu; rw [decN_small (by simpa using hu)]; simp
    | succ k ih =>
      intro u hu
      rcases Nat.lt_or_ge u 10 with h | h
      · rw [decN_small h]; simp
      · rw [decN_big (by omega)]
        have := ih (u / 10) (by rw [Nat.pow_succ] at hu; omega)
        simp
        omega
  have := h 4 n (by omega)
  omega
def erT : List Int := [101, 114, 114, 111, 114, 32]
def liT : List Int := [108, 105, 110, 101, 32]
theorem er_s : strOfNums erT = ⟨#[101, 114, 114, 111, 114, 32]⟩ := by apply str_ext; rw [strOfNums_data]; rfl
theorem li_s : strOfNums liT = ⟨#[108, 105, 110, 101, 32]⟩ := by apply str_ext; rw [strOfNums_data]; rfl
theorem co_s : strOfNums [58, 32] = ⟨#[58, 32]⟩ := by apply str_ext; rw [strOfNums_data]; rfl
theorem errnoText_any (en : Nat) (he : en ≤ 65535) (w : World) (ht : Tab w) :
    Calls Tryz.prog 128 #[.int .i64 en] w fun e w' => e = .returned (.string (strOfNums (erT ++ decN en))) ∧ RowKit.Below w.heap.size w w' := by
  obtain ⟨bd, hbd⟩ : ∃ b, b = strOfNums (decN en) := ⟨_, rfl⟩
  obtain ⟨br, hbr⟩ : ∃ b, b = strOfNums (erT ++ decN en) := ⟨_, rfl⟩
  have hadd : ∀ W, (Op.stringOp .add ⟨#[101, 114, 114, 111, 114, 32]⟩ bd).run Tryz.prog W = .ok (.string br) W := by rw [← er_s, hbd, hbr]; exact add_str erT (decN en) (by have := decN_len en he; simp [erT]; omega)
  have HI : Hid (Calls Tryz.prog 15 #[.int .i64 en] w fun e w' => e = .returned (.string bd) ∧ RowKit.Below w.heap.size w w') := by rw [hbd]; exact itoa_any en he w ht
  rw [← hbr]
  clear hbd hbr ht
  go_enter Tryz.func128, Tryz.ntmps128
  go_wp2_with fail
  refine HI.out.mono ?_
  rintro e w' ⟨rfl, hb⟩
  go_wp2
  go_ret
  exact ⟨rfl, hb⟩
theorem mErrorE (v : Value) (w : World) : (Go.method 307 24 v "Error").run Tryz.prog w = .ok (128, v) w := by kernel_rfl

def faT (ln en : Nat) : List Int := liT ++ decN ln ++ [58, 32] ++ (erT ++ decN en)
set_option maxHeartbeats 1000000 in
theorem faultText_any (q ln en : Nat) (hl : ln ≤ 65535) (he : en ≤ 65535) (w : World) (ht : Tab w) (hq : w.heap[q]? = some (.cells #[.int .i64 ln, .iface 24 (.int .i64 en)] 28)) :
    Calls Tryz.prog 7 #[.pointer (some ⟨q, 0, none⟩)] w fun e w' => e = .returned (.string (strOfNums (faT ln en))) ∧ RowKit.Below w.heap.size w w' := by
  obtain ⟨bd, hbd⟩ : ∃ b, b = strOfNums (decN ln) := ⟨_, rfl⟩
  obtain ⟨be, hbe⟩ : ∃ b, b = strOfNums (erT ++ decN en) := ⟨_, rfl⟩
  obtain ⟨b1, hb1⟩ : ∃ b, b = strOfNums (liT ++ decN ln) := ⟨_, rfl⟩
  obtain ⟨b2, hb2⟩ : ∃ b, b = strOfNums (liT ++ decN ln ++ [58, 32]) := ⟨_, rfl⟩
  obtain ⟨b3, hb3⟩ : ∃ b, b = strOfNums (faT ln en) := ⟨_, rfl⟩
  have l1 := decN_len ln hl
  have l2 := decN_len en he
  have hadd1 : ∀ W, (Op.stringOp .add ⟨#[108, 105, 110, 101, 32]⟩ bd).run Tryz.prog W = .ok (.string b1) W := by rw [← li_s, hbd, hb1]; exact add_str liT (decN ln) (by simp [liT]; omega)
  have hadd2 : ∀ W, (Op.stringOp .add b1 ⟨#[58, 32]⟩).run Tryz.prog W = .ok (.string b2) W := by rw [← co_s, hb1, hb2]; exact add_str (liT ++ decN ln) [58, 32] (by simp [liT]; omega)
  have hadd3 : ∀ W, (Op.stringOp .add b2 be).run Tryz.prog W = .ok (.string b3) W := by rw [hb2, hbe, hb3]; exact add_str (liT ++ decN ln ++ [58, 32]) (erT ++ decN en) (by simp [liT, erT]; omega)
  have HI : Hid (∀ W, RowKit.Below w.heap.size w W → Calls Tryz.prog 15 #[.int .i64 ln] W fun e w' => e = .returned (.string bd) ∧ RowKit.Below W.heap.size W w') := by intro W hW; rw [hbd]; exact itoa_any ln hl W (ht.later hW)
  have HE : Hid (Calls Tryz.prog 128 #[.int .i64 en] w fun e w' => e = .returned (.string be) ∧ RowKit.Below w.heap.size w w') := by rw [hbe]; exact errnoText_any en he w ht
  rw [← hb3]
  have hc0 : w.cell? ⟨q, 0, none⟩ = some (.int .i64 ln) := cell_of_row w q 0 _ _ _ hq
  have hc1 : w.cell? ⟨q, 1, none⟩ = some (.iface 24 (.int .i64 en)) := cell_of_row w q 1 _ _ _ hq
  have hql := World.block_lt_of_cell? w _ hc0
  have me := mErrorE
  clear hbd hbe hb1 hb2 hb3 ht hq l1 l2 hl he
  go_enter Tryz.func7, Tryz.ntmps7
  go_wp2_with fail
  refine HE.out.mono ?_
  rintro e w1 ⟨rfl, hb1⟩
  have HB1 : Hid (RowKit.Below w.heap.size w w1) := hb1
  have k0 : w1.cell? ⟨q, 0, none⟩ = some (.int .i64 ln) := (hb1.cell (p := ⟨q, 0, none⟩) hql).trans hc0
  clear hb1
  go_wp2_with fail
  refine (HI.out w1 HB1.out).mono ?_
  rintro e w2 ⟨rfl, hb2⟩
  have HB2 : Hid (RowKit.Below w.heap.size w w2) := HB1.out.trans (hb2.mono HB1.out.size)
  clear hb2
  go_wp2
  go_ret
  exact ⟨rfl, HB2.out⟩
end Go.Proofs.YtchdklbekfdgdabGreatDoor
