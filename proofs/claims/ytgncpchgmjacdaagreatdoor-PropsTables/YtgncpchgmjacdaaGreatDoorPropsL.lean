/- The library's Cut, Trim, TrimLeft, TrimRight, IndexByte by the shelf's contracts, in words of rows of numbers; what the package-level variables hold. -/
import Derived.Test.YtgncpchgmjacdaaGreatDoorShelfB
import Derived.Test.YtgncpchgmjacdaaGreatDoorBasS
import Derived.Test.YtgncpchgmjacdaaGreatDoorPropsQ
namespace Go.Proofs.YtgncpchgmjacdaaGreatDoor
open Go.RowKit
set_option linter.unusedVariables false

/-- What the package-level variables hold. -/
def Gl (w : World) : Prop := (∃ m : Int, w.cell? ⟨1, 0, none⟩ = some (.int .i64 m)) ∧ w.cell? ⟨0, 0, none⟩ = some (.iface 178 (.agg #[.pointer (some ⟨4, 25, none⟩)]))
theorem Gl.later {w w' : World} (h : Gl w) (hb : Below w.heap.size w w') : Gl w' := by
  obtain ⟨⟨m, h1⟩, h2⟩ := h
  exact ⟨⟨m, (hb.cell (p := ⟨1, 0, none⟩) (World.block_lt_of_cell? w _ h1)).trans h1⟩, (hb.cell (p := ⟨0, 0, none⟩) (World.block_lt_of_cell? w _ h2)).trans h2⟩
def u8s (xs : List Int) : List UInt8 := xs.map fun n => UInt8.ofNat n.toNat
theorem data_str (xs : List Int) : (strOfNums xs).data.toList = u8s xs := strOfNums_data xs
theorem mk_str (xs : List Int) : (⟨(u8s xs).toArray⟩ : ByteArray) = strOfNums xs := by
  apply str_ext
  rw [data_str]
theorem mk_str2 (l : List UInt8) (xs : List Int) (h : l = u8s xs) : (⟨l.toArray⟩ : ByteArray) = strOfNums xs := by
  rw [h, mk_str]
theorem u8_eq (x c : Int) (hx : 0 ≤ x ∧ x ≤ 255) (hc : 0 ≤ c ∧ c ≤ 255) : (UInt8.ofNat x.toNat == UInt8.ofNat c.toNat) = decide (x = c) := by
  rw [Bool.eq_iff_iff]
  simp only [beq_iff_eq, decide_eq_true_eq]
  constructor
  · intro h
    have := congrArg UInt8.toNat h
    simp at this
    omega
  · intro h; rw [h]
theorem index_room1 (l : List UInt8) (sub : List UInt8) (h : Lib.index l sub ≠ -1) : 0 ≤ Lib.index l sub := by
  have := Lib.index_ge l sub
  omega
theorem cut_cons (b : UInt8) (l sub : List UInt8) : Lib.cut (b :: l) sub = if sub.isPrefixOf (b :: l) then ([], (b :: l).drop sub.length, true) else (if (Lib.cut l sub).2.2 = true then (b :: (Lib.cut l sub).1, (Lib.cut l sub).2.1, true) else (b :: l, [], false)) := by
  unfold Lib.cut
  rw [Lib.index]
  by_cases h : sub.isPrefixOf (b :: l) = true
  · simp [h]
  · rw [if_neg h, if_neg h]
    by_cases h1 : Lib.index l sub = -1
    · simp [h1]
    · have h0 := index_room1 l sub h1
      have e : (Lib.index l sub == -1) = false := by simpa using h1
      rw [e]
      simp only [Bool.false_eq_true, if_false]
      rw [if_pos (by omega), if_pos h0]
      simp only [if_true]
      have e1 : (Lib.index l sub + 1).toNat = (Lib.index l sub).toNat + 1 := by omega
      rw [e1, List.take_succ_cons, show (Lib.index l sub).toNat + 1 + sub.length = ((Lib.index l sub).toNat + sub.length) + 1 by omega, List.drop_succ_cons]
theorem cut_nil (a : UInt8) (sub : List UInt8) : Lib.cut [] (a :: sub) = ([], [], false) := by
  simp [Lib.cut, Lib.index]
theorem cut1_ok (c : Int) : (s : List Int) → (cut1 c s).2.2 = false → (cut1 c s).1 = s ∧ (cut1 c s).2.1 = [] := fun s h => by
  rcases cut1_cases c s with ⟨e, _⟩ | ⟨l, r, _, _, e⟩
  · rw [e]; exact ⟨rfl, rfl⟩
  · rw [e] at h; cases h
theorem cut2_ok (s : List Int) (h : (cut2 s).2.2 = false) : (cut2 s).1 = s ∧ (cut2 s).2.1 = [] := by
  rcases cut2_cases s with e | ⟨l, r, _, e⟩
  · rw [e]; exact ⟨rfl, rfl⟩
  · rw [e] at h; cases h
theorem cut1_lib (c : Int) (hc : 0 ≤ c ∧ c ≤ 255) : (bs : List Int) → (∀ y ∈ bs, 0 ≤ y ∧ y ≤ 255) → Lib.cut (u8s bs) [UInt8.ofNat c.toNat] = (u8s (cut1 c bs).1, u8s (cut1 c bs).2.1, (cut1 c bs).2.2)
  | [], _ => by rw [show u8s [] = [] from rfl, cut_nil]; rfl
  | x :: r, h => by
    have ih := cut1_lib c hc r (fun y hy => h y (by simp [hy]))
    have e : u8s (x :: r) = UInt8.ofNat x.toNat :: u8s r := rfl
    rw [e, cut_cons, ih]
    have hp : [UInt8.ofNat c.toNat].isPrefixOf (UInt8.ofNat x.toNat :: u8s r) = decide (x = c) := by
      rw [← u8_eq x c (h x (by simp)) hc]
      simp [List.isPrefixOf, Bool.beq_comm]
    rw [hp]
    by_cases hx : x = c
    · simp [hx, cut1, u8s]
    · simp only [hx, decide_false, Bool.false_eq_true, if_false, cut1]
      cases hb : (cut1 c r).2.2 with
      | true => simp only [if_true]; rfl
      | false =>
        obtain ⟨h1, h2⟩ := cut1_ok c r hb
        simp only [Bool.false_eq_true, if_false]
        rw [h1, h2]
        rfl
theorem cut2_lib : (bs : List Int) → (∀ y ∈ bs, 0 ≤ y ∧ y ≤ 255) → Lib.cut (u8s bs) [46, 46] = (u8s (cut2 bs).1, u8s (cut2 bs).2.1, (cut2 bs).2.2)
  | [], _ => by rw [show u8s [] = [] from rfl, cut_nil]; rfl
  | x :: r, h => by
    have ih := cut2_lib r (fun y hy => h y (by simp [hy]))
    have e : u8s (x :: r) = UInt8.ofNat x.toNat :: u8s r := rfl
    rw [e, cut_cons, ih]
    have k46 : (46 : UInt8) = UInt8.ofNat (46 : Int).toNat := rfl
    have hp : ([46, 46] : List UInt8).isPrefixOf (UInt8.ofNat x.toNat :: u8s r) = decide (x = 46 ∧ r.head? = some 46) := by
      have h1 : ((46 : UInt8) == UInt8.ofNat x.toNat) = decide (x = 46) := by
        rw [Bool.beq_comm, k46, u8_eq x 46 (h x (by simp)) (by omega)]
      cases r with
      | nil => simp [List.isPrefixOf, u8s, h1]
      | cons y r =>
        have h2 : ((46 : UInt8) == UInt8.ofNat y.toNat) = decide (y = 46) := by
          rw [Bool.beq_comm, k46, u8_eq y 46 (h y (by simp)) (by omega)]
        simp only [u8s, List.map_cons, List.isPrefixOf, h1, h2, List.head?_cons, Option.some.injEq, Bool.and_true]
        simp
    rw [hp]
    by_cases hx : x = 46 ∧ r.head? = some 46
    · simp only [hx, and_self, decide_true, if_true, cut2]
      obtain ⟨_, hh⟩ := hx
      cases r with
      | nil => simp at hh
      | cons y r => rfl
    · simp only [hx, decide_false, Bool.false_eq_true, if_false, cut2]
      cases hb : (cut2 r).2.2 with
      | true => simp only [if_true]; rfl
      | false =>
        obtain ⟨h1, h2⟩ := cut2_ok r hb
        simp only [Bool.false_eq_true, if_false]
        rw [h1, h2]
        rfl
theorem below_drewN (w : World) (n : Nat) : Below w.heap.size w (w.drewN n) := by
  induction n with
  | zero => exact Below.refl _ _
  | succ n ih => exact ⟨rfl, rfl, rfl, Nat.le_refl _, fun _ _ => rfl⟩
theorem cut_one (c : Nat) (hc : c ≤ 255) (bs : List Int) (w : World) (hr : ∀ y ∈ bs, 0 ≤ y ∧ y ≤ 255) (hl : bs.length < 4294967281) (hg : Gl w) :
    Calls Tryz.prog 40 #[.string (strOfNums bs), .string ⟨#[UInt8.ofNat c]⟩] w fun e w' => e = .returned (.tuple #[.string (strOfNums (cut1 c bs).1), .string (strOfNums (cut1 c bs).2.1), .bool (cut1 c bs).2.2]) ∧ Below w.heap.size w w' := by
  obtain ⟨⟨m, hm⟩, _⟩ := hg
  have h : Calls Tryz.prog 40 #[.string (strOfNums bs), .string ⟨#[UInt8.ofNat c]⟩] w _ := Any.strings_Cut Tryz.lays145 (strOfNums bs) ⟨#[UInt8.ofNat c]⟩ m w (by rw [strOfNums_size]; exact hl) hm
  refine h.mono ?_
  rintro e w' ⟨rfl, n, rfl⟩
  show Ending.returned (.tuple #[.string ⟨(Lib.cut (strOfNums bs).data.toList [UInt8.ofNat (c : Int).toNat]).1.toArray⟩, .string ⟨(Lib.cut (strOfNums bs).data.toList [UInt8.ofNat (c : Int).toNat]).2.1.toArray⟩, .bool (Lib.cut (strOfNums bs).data.toList [UInt8.ofNat (c : Int).toNat]).2.2]) = _ ∧ _
  have e1 : Lib.cut (strOfNums bs).data.toList [UInt8.ofNat (c : Int).toNat] = (u8s (cut1 c bs).1, u8s (cut1 c bs).2.1, (cut1 c bs).2.2) := by
    rw [data_str]
    exact cut1_lib (c : Int) (by omega) bs hr
  rw [e1]
  simp only [mk_str]
  exact ⟨trivial, below_drewN w n⟩
theorem cut_two (bs : List Int) (w : World) (hr : ∀ y ∈ bs, 0 ≤ y ∧ y ≤ 255) (hl : bs.length < 4294967281) (hg : Gl w) :
    Calls Tryz.prog 40 #[.string (strOfNums bs), .string ⟨#[46, 46]⟩] w fun e w' => e = .returned (.tuple #[.string (strOfNums (cut2 bs).1), .string (strOfNums (cut2 bs).2.1), .bool (cut2 bs).2.2]) ∧ Below w.heap.size w w' := by
  obtain ⟨⟨m, hm⟩, _⟩ := hg
  have h : Calls Tryz.prog 40 #[.string (strOfNums bs), .string ⟨#[46, 46]⟩] w _ := Any.strings_Cut Tryz.lays145 (strOfNums bs) ⟨#[46, 46]⟩ m w (by rw [strOfNums_size]; exact hl) hm
  refine h.mono ?_
  rintro e w' ⟨rfl, n, rfl⟩
  show Ending.returned (.tuple #[.string ⟨(Lib.cut (strOfNums bs).data.toList [46, 46]).1.toArray⟩, .string ⟨(Lib.cut (strOfNums bs).data.toList [46, 46]).2.1.toArray⟩, .bool (Lib.cut (strOfNums bs).data.toList [46, 46]).2.2]) = _ ∧ _
  have e1 : Lib.cut (strOfNums bs).data.toList [46, 46] = (u8s (cut2 bs).1, u8s (cut2 bs).2.1, (cut2 bs).2.2) := by
    rw [data_str]
    exact cut2_lib bs hr
  rw [e1]
  simp only [mk_str]
  exact ⟨trivial, below_drewN w n⟩
theorem bl_lib (x : Int) (hx : 0 ≤ x ∧ x ≤ 255) : ([32, 9] : List UInt8).contains (UInt8.ofNat x.toNat) = isBl x := by
  have k32 : (32 : UInt8) = UInt8.ofNat (32 : Int).toNat := rfl
  have k9 : (9 : UInt8) = UInt8.ofNat (9 : Int).toNat := rfl
  have h1 := u8_eq x 32 hx (by omega)
  have h2 := u8_eq x 9 hx (by omega)
  rw [← k32] at h1
  rw [← k9] at h2
  simp only [List.contains, List.elem, h1, h2, isBl]
  by_cases a : x = 32 <;> by_cases b : x = 9 <;> simp [a, b]
theorem dw_lib : (bs : List Int) → (∀ y ∈ bs, 0 ≤ y ∧ y ≤ 255) → (u8s bs).dropWhile (([32, 9] : List UInt8).contains ·) = u8s (bs.dropWhile isBl)
  | [], _ => rfl
  | x :: r, h => by
    have e : u8s (x :: r) = UInt8.ofNat x.toNat :: u8s r := rfl
    rw [e, List.dropWhile_cons, List.dropWhile_cons, bl_lib x (h x (by simp))]
    split
    · exact dw_lib r (fun y hy => h y (by simp [hy]))
    · rfl
theorem ltr_lib (bs : List Int) (h : ∀ y ∈ bs, 0 ≤ y ∧ y ≤ 255) : Lib.trimLeftS (u8s bs) [32, 9] = u8s (ltr bs) := dw_lib bs h
theorem rtr_lib (bs : List Int) (h : ∀ y ∈ bs, 0 ≤ y ∧ y ≤ 255) : Lib.trimRightS (u8s bs) [32, 9] = u8s (rtr bs) := by
  unfold Lib.trimRightS rtr
  have e : (u8s bs).reverse = u8s bs.reverse := by unfold u8s; rw [List.map_reverse]
  rw [e, dw_lib bs.reverse (fun y hy => h y (by simpa using hy))]
  unfold u8s; rw [List.map_reverse]
theorem mem_rtr (bs : List Int) (h : ∀ y ∈ bs, 0 ≤ y ∧ y ≤ 255) : ∀ y ∈ rtr bs, 0 ≤ y ∧ y ≤ 255 := by
  obtain ⟨n, _, e⟩ := rtr_take bs
  rw [e]
  exact fun y hy => h y (List.mem_of_mem_take hy)
theorem trm_lib (bs : List Int) (h : ∀ y ∈ bs, 0 ≤ y ∧ y ≤ 255) : Lib.trimS (u8s bs) [32, 9] = u8s (trm bs) := by
  unfold Lib.trimS
  rw [rtr_lib bs h, ltr_lib (rtr bs) (mem_rtr bs h), ltr_rtr]
theorem trim_any (bs : List Int) (w : World) (hr : ∀ y ∈ bs, 0 ≤ y ∧ y ≤ 255) (hl : bs.length < 4294967281) :
    Calls Tryz.prog 85 #[.string (strOfNums bs), .string ⟨#[32, 9]⟩] w fun e w' => e = .returned (.string (strOfNums (trm bs))) ∧ Below w.heap.size w w' := by
  have h : Calls Tryz.prog 85 #[.string (strOfNums bs), .string ⟨#[32, 9]⟩] w _ := Any.strings_Trim_laid Tryz.lays160 (by kernel_rfl) (strOfNums bs) ⟨#[32, 9]⟩ w (by rw [strOfNums_size]; omega) (by decide) (ascii_of_all (by decide))
  refine h.mono ?_
  rintro e w' ⟨rfl, hb⟩
  have e1 : Lib.trimS (strOfNums bs).data.toList (⟨#[32, 9]⟩ : ByteArray).data.toList = u8s (trm bs) := by rw [data_str]; exact trm_lib bs hr
  rw [e1, mk_str]
  exact ⟨rfl, hb⟩
theorem trimL_any (bs : List Int) (w : World) (hr : ∀ y ∈ bs, 0 ≤ y ∧ y ≤ 255) (hl : bs.length < 4294967281) :
    Calls Tryz.prog 103 #[.string (strOfNums bs), .string ⟨#[32, 9]⟩] w fun e w' => e = .returned (.string (strOfNums (ltr bs))) ∧ Below w.heap.size w w' := by
  have h : Calls Tryz.prog 103 #[.string (strOfNums bs), .string ⟨#[32, 9]⟩] w _ := Any.strings_TrimLeft_laid Tryz.lays161 (by kernel_rfl) (strOfNums bs) ⟨#[32, 9]⟩ w (by decide) (ascii_of_all (by decide))
  refine h.mono ?_
  rintro e w' ⟨rfl, hb⟩
  have e1 : Lib.trimLeftS (strOfNums bs).data.toList (⟨#[32, 9]⟩ : ByteArray).data.toList = u8s (ltr bs) := by rw [data_str]; exact ltr_lib bs hr
  rw [e1, mk_str]
  exact ⟨rfl, hb⟩
theorem trimR_any (bs : List Int) (w : World) (hr : ∀ y ∈ bs, 0 ≤ y ∧ y ≤ 255) (hl : bs.length < 4294967281) :
    Calls Tryz.prog 104 #[.string (strOfNums bs), .string ⟨#[32, 9]⟩] w fun e w' => e = .returned (.string (strOfNums (rtr bs))) ∧ Below w.heap.size w w' := by
  have h : Calls Tryz.prog 104 #[.string (strOfNums bs), .string ⟨#[32, 9]⟩] w _ := Any.strings_TrimRight_laid Tryz.lays162 (by kernel_rfl) (strOfNums bs) ⟨#[32, 9]⟩ w (by rw [strOfNums_size]; omega) (by decide) (ascii_of_all (by decide))
  refine h.mono ?_
  rintro e w' ⟨rfl, hb⟩
  have e1 : Lib.trimRightS (strOfNums bs).data.toList (⟨#[32, 9]⟩ : ByteArray).data.toList = u8s (rtr bs) := by rw [data_str]; exact rtr_lib bs hr
  rw [e1, mk_str]
  exact ⟨rfl, hb⟩
/-- The place of a digit to base sixteen; -1: it is none. -/
def hidx (c : Int) : Int := if isHex c = true then hexv c else -1
theorem hidx_all : ∀ n : Fin 256, Lib.indexByte [48, 49, 50, 51, 52, 53, 54, 55, 56, 57, 65, 66, 67, 68, 69, 70] n.val.toUInt8 = hidx (n.val : Int) := by decide +kernel
theorem digit_any (x : Int) (w : World) (h0 : 0 ≤ x) (h1 : x ≤ 255) :
    Calls Tryz.prog 141 #[.string ⟨#[48, 49, 50, 51, 52, 53, 54, 55, 56, 57, 65, 66, 67, 68, 69, 70]⟩, .int .u8 x] w fun e w' => e = .returned (.int .i64 (hidx x)) ∧ w' = w := by
  have h : Calls Tryz.prog 141 #[.string ⟨#[48, 49, 50, 51, 52, 53, 54, 55, 56, 57, 65, 66, 67, 68, 69, 70]⟩, .int .u8 x] w _ := Any.strings_IndexByte Tryz.lays137 ⟨#[48, 49, 50, 51, 52, 53, 54, 55, 56, 57, 65, 66, 67, 68, 69, 70]⟩ x w
  refine h.mono ?_
  rintro e w' ⟨rfl, rfl⟩
  have e1 := hidx_all ⟨x.toNat, by omega⟩
  simp only [Int.toNat_of_nonneg h0] at e1
  exact ⟨by rw [← e1], rfl⟩
end Go.Proofs.YtgncpchgmjacdaaGreatDoor
