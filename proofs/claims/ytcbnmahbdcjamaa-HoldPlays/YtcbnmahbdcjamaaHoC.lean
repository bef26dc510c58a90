/- A hold in memory; the walks of New, find, Len, Room, Has, All. -/
import Derived.Test.YtcbnmahbdcjamaaHoB
import Derived.Test.YtcbnmahbdcjamaaBasV
namespace Go.Proofs.Ytcbnmahbdcjamaa
open Go.RowKit Go.Sort
set_option linter.unusedVariables false
set_option linter.unusedSimpArgs false

/-- What find tells: a place. -/
def FindP (v : List Opn) (o : Opn) (i : Nat) : Prop := i ≤ v.length ∧ (hasK v o.a o.s = false → v.take i ++ o :: v.drop i = putK v o) ∧ (hasK v o.a o.s = true → i < v.length ∧ v.take i ++ v.drop (i + 1) = remK v o.a o.s)
theorem findP_of {v : List Opn} {o : Opn} {i : Nat} (hA : AscK v) (hi : i ≤ v.length) (hb : BsK v o i i) : FindP v o i := by
  refine ⟨hi, fun h => bs_put v o i hi hb hA h, fun h => ?_⟩
  rw [← fnK_has hA hb] at h
  refine ⟨?_, bs_rem hA h⟩
  simp only [fnK, Bool.and_eq_true, decide_eq_true_eq] at h
  exact h.1
set_option maxRecDepth 100000 in
set_option maxHeartbeats 1000000 in
theorem findK_any (v : List Opn) (o : Opn) (a : Option Addr) (len cap : Nat) (w : World) (hA : AscK v) (hrd : RdP w a len v) (hm : len ≤ 4611686018427387903) :
    Calls Try.prog 92 #[.slice a len cap, o.val] w
      fun e w' => ∃ i : Nat, FindP v o i ∧ e = .returned (.tuple #[.int .i64 i, .bool (hasK v o.a o.s)]) ∧ Below w.heap.size w w' := by
  have HC : Hid (∀ W, Below w.heap.size w W → Calls Try.prog 138 #[.slice a len cap, o.val, .func (.func 139) #[] #[]] W
      fun e w' => ∃ i : Nat, FindP v o i ∧ e = .returned (.tuple #[.int .i64 i, .bool (hasK v o.a o.s)]) ∧ Below w.heap.size w w') := fun W hW => (bsK_any v o a len cap W hA (hrd.later hW) hm).mono (by
    rintro e w' ⟨i, hi, hb, rfl, hg⟩
    exact ⟨i, findP_of hA hi hb, by rw [fnK_has hA hb], hW.trans (hg.mono hW.size)⟩)
  have HB0 : Hid (Below w.heap.size w (w.alloc (bxP o))) := (Below.refl _ w).alloc (Nat.le_refl _) _
  have hbx : (w.alloc (bxP o)).heap[w.heap.size]? = some (bxP o) := heap_alloc_new w _
  obtain ⟨b0, b1, b2, b3, b4, b5, b6⟩ := opAt_box hbx
  have HF : Hid (∃ P : Nat → Prop, P = FindP v o) := ⟨_, rfl⟩
  obtain ⟨P, hP⟩ := HF.out
  rw [← hP] at HC ⊢
  clear hrd hA hm hbx HF hP
  generalize hasK v o.a o.s = z at HC ⊢
  obtain ⟨oc, oa, os, oi, orc, ora, och⟩ := o
  simp only [Opn.val] at HC b0 b1 b2 b3 b4 b5 b6 ⊢
  go_enter Try.func92, Try.ntmps92
  go_wp2_with (go_at_call 138; refine (HC.out _ HB0.out).mono ?_; rintro e w2 ⟨i, hi, rfl, hg⟩; have HP : Hid (P i ∧ Below w.heap.size w w2) := ⟨hi, hg⟩; clear hi hg)
  go_ret2
  exact ⟨i, HP.out.1, rfl, HP.out.2⟩
/-- A hold in memory: its box, and its row. -/
structure HoS (w : World) (B bh r : Nat) (l : List Opn) (v : Value) : Prop where
  low : B ≤ bh
  box : w.heap[bh]? = some (.cells #[.int .i64 (r : Int), v] 132 (0, 0))
  row : w.ownsRow B 34 7 v l.length (flatP l)
  asc : AscK l
  room : l.length ≤ r
/-- Its blocks. -/
def OwnH (bh : Nat) (v : Value) (k : Nat) : Prop := k = bh ∨ v.ownBlock = some k
theorem HoS.chg {w W : World} {B bh r : Nat} {l : List Opn} {v : Value} {Q : Nat → Prop} (h : HoS w B bh r l v) (hc : Chg w W Q) (hq : ∀ k, OwnH bh v k → ¬ Q k) : HoS W B bh r l v :=
  ⟨h.low, cg_heap hc h.box (hq _ (.inl rfl)), cg_own hc h.row (fun k hk => hq k (.inr hk)), h.asc, h.room⟩
theorem HoS.later {w W : World} {B bh r : Nat} {l : List Opn} {v : Value} (h : HoS w B bh r l v) (hb : Below w.heap.size w W) : HoS W B bh r l v :=
  h.chg (cg_below hb fun _ => False) (fun _ _ h => h)
theorem HoS.lt {w : World} {B bh r : Nat} {l : List Opn} {v : Value} (h : HoS w B bh r l v) (k : Nat) (hk : OwnH bh v k) : k < w.heap.size ∧ B ≤ k := by
  rcases hk with rfl | hk
  · exact ⟨(Array.getElem?_eq_some_iff.1 h.box).1, h.low⟩
  · have := h.row.lt k hk
    exact ⟨this.2, this.1⟩
theorem HoS.rd {w : World} {B bh r : Nat} {l : List Opn} {v : Value} (h : HoS w B bh r l v) : ∃ a cap, v = .slice a l.length cap ∧ l.length ≤ cap ∧ cap ≤ 9223372036854775807 ∧ RdP w a l.length l ∧ (a = none → cap = 0) := rdP_own h.row
theorem HoS.cells {w : World} {B bh r : Nat} {l : List Opn} {v : Value} (h : HoS w B bh r l v) : w.cell? ⟨bh, 0, none⟩ = some (.int .i64 (r : Int)) ∧ w.cell? ⟨bh, 1, none⟩ = some v ∧ w.frozen? ⟨bh, 1, none⟩ = false :=
  ⟨cell_of_row w bh 0 _ _ _ h.box, cell_of_row w bh 1 _ _ _ h.box, Lib.frozen_of_heap h.box _⟩

theorem maxK_run (a b c : Int) (h : c = max a b) (W : World) : (Builtin.max_ #[3, 3] 3 #[.int .i64 a, .int .i64 b]).run Try.prog W = .ok (.int .i64 c) W := by
  rw [run_max_int2, h]
  congr 2
  split <;> omega
theorem newK_any (room : Int) (w : World) : Calls Try.prog 36 #[.int .i64 room] w fun e w' => e = .returned (.pointer (some ⟨w.heap.size, 0, none⟩)) ∧ HoS w' w.heap.size w.heap.size room.toNat [] (.slice none 0 0) ∧ Below w.heap.size w w' := by
  have HX : Hid (HoS (w.alloc (.cells #[.int .i64 (room.toNat : Int), .slice none 0 0] 132)) w.heap.size w.heap.size room.toNat [] (.slice none 0 0) ∧ Below w.heap.size w (w.alloc (.cells #[.int .i64 (room.toNat : Int), .slice none 0 0] 132))) :=
    ⟨⟨Nat.le_refl _, heap_alloc_new w _, World.ownsRow_nil _ _ _ _, List.Pairwise.nil, Nat.zero_le _⟩, (Below.refl _ w).alloc (Nat.le_refl _) _⟩
  have hm := maxK_run 0 room (room.toNat : Int) (by omega)
  generalize room.toNat = R at HX hm ⊢
  go_enter Try.func36, Try.ntmps36
  go_wp2
  go_ret
  exact ⟨rfl, HX.out⟩
theorem lenK_any {B bh r : Nat} {l : List Opn} {v : Value} (w : World) (h : HoS w B bh r l v) : Calls Try.prog 51 #[.pointer (some ⟨bh, 0, none⟩)] w fun e w' => e = .returned (.int .i64 (l.length : Int)) ∧ w' = w := by
  obtain ⟨a, cap, rfl, _⟩ := h.rd
  obtain ⟨c0, c1, _⟩ := h.cells
  clear h
  go_enter Try.func51, Try.ntmps51
  go_wp2
  go_ret
  exact ⟨rfl, rfl⟩
theorem roomK_any {B bh r : Nat} {l : List Opn} {v : Value} (w : World) (h : HoS w B bh r l v) (hr : (r : Int) ≤ 9223372036854775807) : Calls Try.prog 52 #[.pointer (some ⟨bh, 0, none⟩)] w fun e w' => e = .returned (.int .i64 ((r : Int) - (l.length : Int))) ∧ w' = w.drew := by
  obtain ⟨a, cap, rfl, _⟩ := h.rd
  obtain ⟨c0, c1, _⟩ := h.cells
  have hl := h.room
  have hs : IntKind.i64.wrap ((r : Int) - (l.length : Int)) = (r : Int) - (l.length : Int) := by
    rw [IntKind.wrap_i64]; omega
  have hs2 : wrap64 ((r : Int) - (l.length : Int)) = (r : Int) - (l.length : Int) := by
    unfold wrap64; omega
  clear h
  generalize l.length = n at c1 hs hs2 ⊢
  go_enter Try.func52, Try.ntmps52
  go_upto_region 1 with fail
  go_region_with (fail)
  all_goals
    go_wp2
    go_ret
    exact ⟨rfl, rfl⟩
set_option maxHeartbeats 1000000 in
theorem hasK_any {B bh r : Nat} {l : List Opn} {v : Value} (w : World) (x s : Int) (h : HoS w B bh r l v) (hl : l.length ≤ 1000000) : Calls Try.prog 44 #[.pointer (some ⟨bh, 0, none⟩), .int .i64 x, .int .i64 s] w fun e w' => e = .returned (.bool (hasK l x s)) ∧ Below w.heap.size w w' := by
  obtain ⟨a, cap, rfl, h1, h2, h3, h4⟩ := h.rd
  obtain ⟨c0, c1, _⟩ := h.cells
  have HF : Hid (Calls Try.prog 92 #[.slice a l.length cap, .agg #[.int .i64 0, .int .i64 x, .int .i64 s, .bool false, .int .i64 0, .int .i64 0, .int .i32 0]] w
      fun e w' => ∃ i : Nat, e = .returned (.tuple #[.int .i64 i, .bool (hasK l x s)]) ∧ Below w.heap.size w w') := (findK_any l ⟨0, x, s, false, 0, 0, 0⟩ a l.length cap w h.asc h3 (by omega)).mono (by
    rintro e w2 ⟨i, _, rfl, hb⟩; exact ⟨i, rfl, hb⟩)
  generalize hasK l x s = z at HF ⊢
  generalize l.length = n at c1 HF
  clear h h3 hl
  go_enter Try.func44, Try.ntmps44
  go_wp2_with (go_at_call 92; refine HF.out.mono ?_; rintro e w2 ⟨i, rfl, hg⟩; have HP : Hid (Below w.heap.size w w2) := hg; clear hg)
  go_ret
  exact ⟨rfl, HP.out⟩
theorem allK_any {B bh r : Nat} {l : List Opn} {v : Value} (w : World) (h : HoS w B bh r l v) (hl : l.length ≤ 100000) : Calls Try.prog 48 #[.pointer (some ⟨bh, 0, none⟩)] w fun e w' => ∃ u, e = .returned u ∧ w'.ownsRow w.heap.size 34 7 u l.length (flatP l) ∧ Below w.heap.size w w' := by
  obtain ⟨a, cap, rfl, h1, h2, h3, h4⟩ := h.rd
  obtain ⟨c0, c1, _⟩ := h.cells
  have HC : Hid (Calls Try.prog 93 #[.slice a l.length cap] w fun e w' => ∃ v, e = .returned v ∧ w'.ownsRow w.heap.size 34 7 v l.length (flatP l) ∧ Below w.heap.size w w') := cloneP_any l a l.length cap w h3 h4 hl
  have HX : Hid (∃ R : Value → World → Prop, R = fun v w' => w'.ownsRow w.heap.size 34 7 v l.length (flatP l) ∧ Below w.heap.size w w') := ⟨_, rfl⟩
  obtain ⟨R, hR⟩ := HX.out
  have HC2 : Hid (Calls Try.prog 93 #[.slice a l.length cap] w fun e w' => ∃ v, e = .returned v ∧ R v w') := by rw [hR]; exact HC.out
  show Calls _ _ _ _ fun e w' => ∃ u, e = .returned u ∧ (fun v w' => w'.ownsRow w.heap.size 34 7 v l.length (flatP l) ∧ Below w.heap.size w w') u w'
  rw [← hR]
  clear HC HX hR h h3 hl h4
  generalize l.length = n at c1 HC2
  go_enter Try.func48, Try.ntmps48
  go_wp2_with (go_at_call 93; refine HC2.out.mono ?_; rintro e w2 ⟨u, rfl, hg⟩; have HP : Hid (R u w2) := hg; clear hg)
  go_ret
  exact ⟨_, rfl, HP.out⟩
end Go.Proofs.Ytcbnmahbdcjamaa
