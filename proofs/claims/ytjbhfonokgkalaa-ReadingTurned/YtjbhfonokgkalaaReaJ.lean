/- The walk of ends. -/
import Derived.Test.YtjbhfonokgkalaaReaI
namespace Go.Proofs.Ytjbhfonokgkalaa
open Go.RowKit
set_option linter.unusedVariables false
set_option linter.unusedSimpArgs false

/-- A row of truths that can be read. -/
def RdB (w : World) (a : Option Addr) (len : Nat) (bs : List Bool) : Prop :=
  bs.length = len ∧ (0 < len → ∃ b off, a = some ⟨b, off, none⟩ ∧ ∀ i, i < len → w.cell? ⟨b, off + i, none⟩ = some (.bool (bs.getD i false)))
theorem RdB.later {w w' : World} {a : Option Addr} {len : Nat} {bs : List Bool} (h : RdB w a len bs) (hb : Below w.heap.size w w') : RdB w' a len bs := by
  refine ⟨h.1, fun hp => ?_⟩
  obtain ⟨b, off, ha, hc⟩ := h.2 hp
  exact ⟨b, off, ha, fun i hi => (hb.cell (p := ⟨b, off + i, none⟩) (World.block_lt_of_cell? w _ (hc i hi))).trans (hc i hi)⟩
theorem rdB_own {w : World} {B : Nat} {e : TypeId} {v : Value} {n : Nat} {bs : List Bool} (h : w.ownsRow B e 1 v n (bs.map Value.bool)) : ∃ a cap, v = .slice a n cap ∧ n ≤ cap ∧ cap ≤ 9223372036854775807 ∧ RdB w a n bs := by
  have hl : bs.length = n := by simpa using h.1
  rcases h.2 with ⟨rfl, rfl⟩ | ⟨g, cap, cur, rfl, hb, hg, hn, hm, hs, ht⟩
  · exact ⟨none, 0, rfl, by omega, by omega, hl, fun hp => absurd hp (by omega)⟩
  · refine ⟨_, cap, rfl, hn, by simpa [maxLen] using hm, hl, fun hp => ⟨g, 0, rfl, fun i hi => ?_⟩⟩
    rw [cell_of_row w g (0 + i) cur e (0, 0) hg]
    have h1 : (cur.toList.take (n * 1))[i]? = (bs.map Value.bool)[i]? := by rw [ht]
    rw [List.getElem?_take, if_pos (by omega)] at h1
    simp at h1 ⊢
    rw [h1]
    simp [show i < bs.length by omega]
/-- What was read, the newest ahead: one more. -/
theorem hsr_snoc (any : Bool) (xs : List Int) (k : Nat) (hk : k < xs.length) : hsr any (xs.take (k + 1)).reverse = (xs[k], any || decide (k = 0)) :: hsr any (xs.take k).reverse := by
  rw [List.take_add_one, List.getElem?_eq_getElem hk]
  simp only [Option.toList_some, List.reverse_append, List.reverse_cons, List.reverse_nil, List.nil_append, List.singleton_append, hsr]
  congr 2
  cases k with
  | zero => simp
  | succ k => cases xs with
    | nil => simp at hk
    | cons x r => simp
/-- What ends tells so far. -/
theorem endsL_at (n : Nd) (any : Bool) (xs : List Int) (k : Nat) (hk : k < xs.length) : endsAt n any (xs.take (k + 1)).reverse = (n.end (hsr any (xs.take (k + 1)).reverse) || (any && n.emp)) := by
  unfold endsAt
  rw [if_neg]
  rw [List.take_add_one, List.getElem?_eq_getElem hk]
  simp
  rintro rfl
  simp at hk
theorem new_at2 (w : World) (o1 o2 : Obj) : ((w.alloc o1).alloc o2).heap[w.heap.size + 1]? = some o2 := by
  have := heap_alloc_new (w.alloc o1) o2
  rwa [show (w.alloc o1).heap.size = w.heap.size + 1 by simp] at this
theorem new_at1 (w : World) (o1 o2 : Obj) : ((w.alloc o1).alloc o2).heap[w.heap.size]? = some o1 := by
  rw [Below.heap_alloc _ _ _ (by simp)]
  exact heap_alloc_new w o1
/-- Where the loop of ends stands. -/
def EnAt (B d : Nat) (n : Nd) (any : Bool) (xs : List Int) (H : Nat) (fp : Nat → Prop) (k : Nat) (v : Value) (w wr : World) : Prop :=
  ∃ cur, wr.heap[H]? = some (.cells cur 82 (0, 0)) ∧ NdV B wr d n (hsr any (xs.take k).reverse) ((cur.toList.drop 0).take 5) fp ∧ wr.ownsRow (H + 1) 4 1 v (k + 1) (((List.range (k + 1)).map fun p => endsAt n any (xs.take p).reverse).map Value.bool) ∧ Chg fp H w wr ∧ (∀ y, fp y → v.ownBlock ≠ some y) ∧ H + 1 ≤ wr.heap.size

theorem own_same {w w' : World} {B : Nat} {e : TypeId} {s n : Nat} {v : Value} {xs : List Value} (h : w.ownsRow B e s v n xs) (hs : ∀ g, v.ownBlock = some g → w'.heap[g]? = w.heap[g]?) : w'.ownsRow B e s v n xs := by
  refine ⟨h.1, ?_⟩
  rcases h.2 with h2 | ⟨g, cap, cur, hv, hb, hg, r⟩
  · exact .inl h2
  · exact .inr ⟨g, cap, cur, hv, hb, (hs g (by rw [hv]; rfl)).trans hg, r⟩
/-- One character more: behind pass. -/
theorem en_pass {B d : Nat} {n : Nd} {any : Bool} {xs : List Int} {H : Nat} {fp : Nat → Prop} {k : Nat} {v : Value} {w wr w2 : World} {cur : Array Value} (hBH : B ≤ H) (hfp : ∀ y, fp y → B ≤ y ∧ y < H) (hH : H = w.heap.size) (hk : k < xs.length)
    (e1 : wr.heap[H]? = some (.cells cur 82 (0, 0))) (e3 : wr.ownsRow (H + 1) 4 1 v (k + 1) (((List.range (k + 1)).map fun p => endsAt n any (xs.take p).reverse).map Value.bool)) (e6 : H + 1 ≤ wr.heap.size)
    (hp : PsPost B d n (hsr any (xs.take (k + 1)).reverse) H 0 cur fp wr w2) :
    w2.cell? ⟨H, 4, none⟩ = some (.bool (n.end (hsr any (xs.take (k + 1)).reverse))) ∧ w2.ownsRow (H + 1) 4 1 v (k + 1) (((List.range (k + 1)).map fun p => endsAt n any (xs.take p).reverse).map Value.bool) ∧ H + 1 ≤ w2.heap.size := by
  obtain ⟨p1, p2, p3⟩ := hp
  refine ⟨?_, ?_, by have := p3.size; omega⟩
  · have hl : 4 < cur.size := by
      have h5 : ((cur.setIfInBounds (0 + 4) (.bool (n.end (hsr any (xs.take (k + 1)).reverse)))).toList.drop 0).take 5 ≠ [] := by
        cases d with
        | zero => exact p2.elim
        | succ d => obtain ⟨_, _, _, _, h, _⟩ := p2; rw [h]; simp
      cases d with
      | zero => exact p2.elim
      | succ d =>
        obtain ⟨_, _, _, _, h, _⟩ := p2
        have := (five_at h).2.2.2.2
        have := (Array.getElem?_eq_some_iff.1 this).1
        simpa using this
    rw [cell_of_row w2 H 4 _ _ _ p1, Array.getElem?_setIfInBounds_self_of_lt hl]
  · refine own_same e3 (fun g hg => p3.block g (e3.lt g hg).2 (fun hf => ?_) ?_)
    · have h1 := (hfp g hf).2; have h2 := (e3.lt g hg).1; omega
    · have h2 := (e3.lt g hg).1; omega
/-- One character more: behind append. -/
theorem en_step {B d : Nat} {n : Nd} {any : Bool} {xs : List Int} {H : Nat} {fp : Nat → Prop} {k : Nat} {v : Value} {w wr w2 w1 : World} {cur : Array Value} (hBH : B ≤ H) (hfp : ∀ y, fp y → B ≤ y ∧ y < H) (hH : H = w.heap.size) (hk : k < xs.length)
    (e3 : w2.ownsRow (H + 1) 4 1 v (k + 1) (((List.range (k + 1)).map fun p => endsAt n any (xs.take p).reverse).map Value.bool)) (e4 : Chg fp H w wr) (e6 : H + 1 ≤ w2.heap.size)
    (hp : PsPost B d n (hsr any (xs.take (k + 1)).reverse) H 0 cur fp wr w2) (o : Obj) (q : Bool) (hq : q = (n.end (hsr any (xs.take (k + 1)).reverse) || (any && n.emp))) (g cap : Nat)
    (h1 : w1.ownsRow (H + 1) 4 1 (.slice (some ⟨g, 0, none⟩) (k + 1 + 1) cap) (k + 1 + 1) (((List.range (k + 1)).map fun p => endsAt n any (xs.take p).reverse).map Value.bool ++ [.bool q])) (h2 : (w2.alloc o).grownBy w1 v.ownBlock) :
    EnAt B d n any xs H fp (k + 1) (.slice (some ⟨g, 0, none⟩) (k + 1 + 1) cap) w w1 := by
  obtain ⟨p1, p2, p3⟩ := hp
  have hsame : ∀ y, y < H + 1 → w1.heap[y]? = w2.heap[y]? := fun y hy => (h2.block y (by simp; omega) (fun e => by have := (e3.lt y e.symm).1; omega)).trans (Below.heap_alloc _ _ _ (by omega))
  refine ⟨_, (hsame H (by omega)).trans p1, p2.frame d (fun y hy hf => hsame y ?_), ?_, ?_, fun y hy e => ?_, ?_⟩
  · rcases hf with hf | hf
    · have := (hfp y hf).2; omega
    · omega
  · rw [List.range_succ, List.map_append, List.map_append]
    rw [hq, ← endsL_at n any xs k hk] at h1
    exact h1
  · have h5 := e4.trans p3
    refine ⟨h2.os.trans h5.os, h2.tape.trans h5.tape, h2.output.trans h5.output, ?_, fun x hx hf hne => ?_⟩
    · have h6 := h5.size
      have h7 := h2.size
      simp at h7
      omega
    · exact (hsame x (by omega)).trans (h5.block x hx hf hne)
  · have h5 := (h1.lt y e).1
    have h6 := (hfp y hy).2
    omega
  · have h7 := h2.size
    simp at h7
    omega

set_option maxHeartbeats 8000000 in
theorem ends_any (B d : Nat) (n : Nd) (any : Bool) (xs : List Int) (x : Mk) (fp : Nat → Prop) (a : Option Addr) (len cap : Nat) (w : World) (hn : NdV B w d n [] x.vals fp) (hB : B ≤ w.heap.size) (hfp : ∀ y, fp y → B ≤ y ∧ y < w.heap.size) (hrd : Rd .i64 w a len xs) (hta : 0 < len → ∀ y, a = some y → y.block < B) (hl : len ≤ 1000000) :
    Calls Try.prog 58 #[x.agg, .slice a len cap, .bool any] w fun e w' => ∃ v, e = .returned v ∧ w'.ownsRow (w.heap.size + 1) 4 1 v (len + 1) ((endsL n any xs).map Value.bool) ∧ Below B w w' := by
  have hlen := hrd.1
  obtain ⟨i0, hi, hz0, hz1, hz2⟩ := info_parts info_b
  have HI : Hid (Try.prog.info? 4 = some i0 ∧ i0.zero = some (.bool false) ∧ i0.size = 1 ∧ i0.bytes = 1) := ⟨hi, hz0, hz1, hz2⟩
  have hem := hn.four
  obtain ⟨zo, za, zn, zc, ka, kn, kc, zm, ze⟩ := x
  have hzm : zm = n.emp := hem
  dsimp only [Mk.agg]
  obtain ⟨W0, hW0⟩ : ∃ W0, W0 = w.alloc (.cells #[.int .i64 zo, .slice za zn zc, .slice ka kn kc, .bool zm, .bool ze] 82) := ⟨_, rfl⟩
  obtain ⟨H, hH⟩ : ∃ H, H = w.heap.size := ⟨_, rfl⟩
  have hb0 : W0.heap[H]? = some (.cells #[.int .i64 zo, .slice za zn zc, .slice ka kn kc, .bool zm, .bool ze] 82) := by rw [hW0, hH]; exact heap_alloc_new w _
  have c3 : W0.cell? ⟨H, 3, none⟩ = some (.bool zm) := (cell_of_row W0 H 3 _ _ _ hb0).trans (by simp)
  have HB0 : Hid (Below H w W0) := by rw [hW0, hH]; exact (Below.refl _ w).alloc (Nat.le_refl _) _
  have HS0 : Hid (W0.heap.size = H + 1 ∧ H = w.heap.size) := ⟨by rw [hW0, hH]; simp, hH⟩
  obtain ⟨CZ, hCZ⟩ : ∃ CZ, CZ = madeCells (Value.bool false).cells ((len + 1) * 1) := ⟨_, rfl⟩
  have hmk : ∀ W : World, (Instr.makeSlice 27 (.int .i64 0) (.int .i64 ((len : Int) + 1))).run Try.prog W = .ok (.slice (some ⟨W.heap.size, 0, none⟩) 0 (len + 1)) (W.alloc (.cells CZ 4)) := by
    intro W
    have := run_make (P := Try.prog) W 27 4 i0 _ Try.underlying27 hi hz0 .i64 .i64 0 ((len : Int) + 1) (by omega) (by omega) (by rw [hz2]; omega) (by omega)
    rw [show ((len : Int) + 1).toNat = len + 1 by omega, hz1, ← hCZ] at this
    exact this
  have HCZ : Hid (CZ.size = (len + 1) * 1) := by show CZ.size = _; rw [hCZ, size_madeCells]
  have hli : (len : Int) ≤ 1000000 := by omega
  have hw1 : IntKind.i64.wrap ((len : Int) + 1) = (len : Int) + 1 := by rw [IntKind.wrap_i64]; omega
  have HN0 : Hid (NdV B w d n [] [.int .i64 zo, .slice za zn zc, .slice ka kn kc, .bool zm, .bool ze] fp) := hn
  have HX : Hid (B ≤ H ∧ (∀ y, fp y → B ≤ y ∧ y < H) ∧ Rd .i64 w a len xs ∧ xs.length = len ∧ (0 < len → ∀ y, a = some y → y.block < B) ∧ zm = n.emp) := ⟨by omega, by rw [hH]; exact hfp, hrd, hlen, hta, hzm⟩
  clear hi hz0 hz1 hz2 hn hem hzm hfp hrd hta hl hlen hCZ hB
  have hown_a : ∀ o : Obj, ((W0.alloc (.cells CZ 4)).alloc o).ownsRow (H + 1) 4 1 (.slice (some ⟨W0.heap.size, 0, none⟩) 0 (len + 1)) 0 [] := fun o => own_alloc (World.ownsRow_made W0 CZ (len + 1) (by have := HS0.out; omega) (by unfold maxLen; omega) HCZ.out) o
  have hown_b : ∀ o : Obj, ((W0.alloc o).alloc (.cells CZ 4)).ownsRow (H + 1) 4 1 (.slice (some ⟨W0.heap.size + 1, 0, none⟩) 0 (len + 1)) 0 [] := fun o => by
    have := World.ownsRow_made (base := H + 1) (e := 4) (size := 1) (W0.alloc o) CZ (len + 1) (by have := HS0.out; simp; omega) (by unfold maxLen; omega) HCZ.out
    rw [show (W0.alloc o).heap.size = W0.heap.size + 1 by simp] at this
    exact this
  have HOA : Hid (∀ o : Obj, ((W0.alloc (.cells CZ 4)).alloc o).ownsRow (H + 1) 4 1 (.slice (some ⟨W0.heap.size, 0, none⟩) 0 (len + 1)) 0 []) := hown_a
  have HOB : Hid (∀ o : Obj, ((W0.alloc o).alloc (.cells CZ 4)).ownsRow (H + 1) 4 1 (.slice (some ⟨W0.heap.size + 1, 0, none⟩) 0 (len + 1)) 0 []) := hown_b
  have hH0 : H < W0.heap.size := by have := HS0.out; omega
  have HCEL : Hid (∀ o1 o2 : Obj, ((W0.alloc o1).alloc o2).drew.cell? ⟨H, 3, none⟩ = some (.bool zm)) := fun o1 o2 => by
    have hb : Below W0.heap.size W0 ((W0.alloc o1).alloc o2).drew := (((Below.refl _ W0).alloc (Nat.le_refl _) o1).alloc (by simp) o2).drew
    exact (hb.cell hH0).trans c3
  have HST : Hid (∀ (o1 o2 : Obj) (g cap : Nat) (w1 : World) (r : Nat), H + 1 ≤ r → w1.ownsRow (H + 1) 4 1 (.slice (some ⟨g, 0, none⟩) (0 + 1) cap) (0 + 1) ([] ++ [.bool zm]) → ((W0.alloc o1).alloc o2).drew.grownBy w1 (some r) → EnAt B d n any xs H fp 0 (.slice (some ⟨g, 0, none⟩) 1 cap) w w1) := by
    intro o1 o2 g cap w1 r hr h1 h2
    have e1 := HS0.out
    have hx := HX.out
    have hb : Below W0.heap.size W0 ((W0.alloc o1).alloc o2).drew := (((Below.refl _ W0).alloc (Nat.le_refl _) o1).alloc (by simp) o2).drew
    have hb1 : Below (H + 1) W0 w1 := (hb.mono (by omega)).grown h2 (by have := hb.size; omega) (fun k hk => by cases hk; exact hr)
    have hwb : Below H w w1 := HB0.out.trans (hb1.mono (by omega))
    refine ⟨_, (hb1.block H (by omega)).trans hb0, ?_, ?_, ⟨hwb.os, hwb.tape, hwb.output, hwb.size, fun y hy _ _ => hwb.block y (by omega)⟩, fun y hy e => ?_, by have := hb1.size; omega⟩
    · show NdV B w1 d n [] [.int .i64 zo, .slice za zn zc, .slice ka kn kc, .bool zm, .bool ze] fp
      exact HN0.out.frame d (fun y hy _ => hwb.block y (by omega))
    · have : endsAt n any [] = zm := by rw [hx.2.2.2.2.2]; rfl
      simpa [this] using h1
    · have h3 := (h1.lt y e).1
      have h4 := (hx.2.1 y hy).2
      omega
  have HR1 : Hid (H + 1 ≤ W0.heap.size) := by show H + 1 ≤ _; have := HS0.out; omega
  have HR2 : Hid (H + 1 ≤ W0.heap.size + 1) := by show H + 1 ≤ _; have := HS0.out; omega
  clear hown_a hown_b hb0
  go_enter Try.func58, Try.ntmps58
  go_upto_region 2 with fail
  rw [← hH, ← hW0]
  clear hH hW0
  go_region_held3 (fun w' => w'.cell? ⟨H, 3, none⟩ = some (.bool zm)) (go_keep)
    ((first
      | (refine step_append_wide _ (by rfl) _ _ 27 (by rfl) (H + 1) 4 i0 _ 1 1 Try.underlying27 HI.out.1 HI.out.2.1 HI.out.2.2.1 HI.out.2.2.2 rfl (by decide) (.slice (some ⟨W0.heap.size, 0, none⟩) 0 (len + 1)) 0 [] (by rfl) ((HOA.out _).drew) ⟨W0.heap.size + 1, 0, none⟩ 1 1 [.bool zm] (by rfl) (by rfl) (World.news_of_block (cs := #[.bool zm]) (t := 4) (fr := (0, 0)) (new_at2 W0 _ _)) (by simp [Value.oneCell']) (by omega) (by unfold maxLen; omega) (by omega) (by simp; omega) ?_; intro g cap w1 hown1 hgrow hat hlt1; have c31 : w1.cell? ⟨H, 3, none⟩ = some (.bool zm) := (hgrow.cell_far ⟨H, 3, none⟩ (by show H < _; simp; omega) (by show some H ≠ _; simp [Value.ownBlock]; omega)).trans (HCEL.out _ _); have HEN : Hid (EnAt B d n any xs H fp 0 (.slice (some ⟨g, 0, none⟩) 1 cap) w w1) := (HST.out _ _ g cap w1 W0.heap.size HR1.out hown1 hgrow); clear hown1 hgrow hat hlt1)
      | (refine step_append_wide _ (by rfl) _ _ 27 (by rfl) (H + 1) 4 i0 _ 1 1 Try.underlying27 HI.out.1 HI.out.2.1 HI.out.2.2.1 HI.out.2.2.2 rfl (by decide) (.slice (some ⟨W0.heap.size + 1, 0, none⟩) 0 (len + 1)) 0 [] (by rfl) ((HOB.out _).drew) ⟨W0.heap.size, 0, none⟩ 1 1 [.bool zm] (by rfl) (by rfl) (World.news_of_block (cs := #[.bool zm]) (t := 4) (fr := (0, 0)) (new_at1 W0 _ _)) (by simp [Value.oneCell']) (by omega) (by unfold maxLen; omega) (by omega) (by simp; omega) ?_; intro g cap w1 hown1 hgrow hat hlt1; have c31 : w1.cell? ⟨H, 3, none⟩ = some (.bool zm) := (hgrow.cell_far ⟨H, 3, none⟩ (by show H < _; simp; omega) (by show some H ≠ _; simp [Value.ownBlock]; omega)).trans (HCEL.out _ _); have HEN : Hid (EnAt B d n any xs H fp 0 (.slice (some ⟨g, 0, none⟩) 1 cap) w w1) := (HST.out _ _ g cap w1 (W0.heap.size + 1) HR2.out hown1 hgrow); clear hown1 hgrow hat hlt1)))
  all_goals
    clear HST HCEL HOA HOB HR1 HR2 HCZ HN0 hmk c3 c31
    go_wp2
    go_loopw [7, 8, 21] (fun x7 x8 x21 wr => ∃ k : Nat, k ≤ len ∧ x21 = .int .i64 k ∧ x7 = .bool (any || decide (k = 0)) ∧ EnAt B d n any xs H fp k x8 w wr) (fun _ _ x21 _ => len - (intOf x21).toNat)
    case atStart => exact ⟨0, by omega, rfl, by simp, HEN.out⟩
    case round =>
      obtain ⟨k, hk, hx21, hx7, hat⟩ := hrel
      subst hx21
      subst hx7
      obtain ⟨cur, e1, e2, e3, e4, e5, e6⟩ := hat
      obtain ⟨av, cv, rfl⟩ := own_sl1 e3
      have hx := HX.out
      by_cases hlt : k < len
      · have hkx : k < xs.length := by omega
        obtain ⟨b, off, rfl, hcl⟩ := hx.2.2.1.2 (by omega)
        have hbB : b < B := hx.2.2.2.2.1 (by omega) _ rfl
        obtain ⟨c, hc⟩ : ∃ c, c = xs.getD k 0 := ⟨_, rfl⟩
        have hcx : c = xs[k] := by rw [hc]; simp [hkx]
        have ct : wr.cell? ⟨b, off + k, none⟩ = some (.int .i64 c) := by
          have h1 := hcl k hlt
          rw [← hc] at h1
          rw [World.cell?_of_block (w := w) (w' := wr) (a := ⟨b, off + k, none⟩) (e4.block b (by have := HS0.out; omega) (fun hf => by have := (hx.2.1 b hf).1; omega) (by omega))]
          exact h1
        obtain ⟨bg, hbg⟩ : ∃ bg, bg = (any || decide (k = 0)) := ⟨_, rfl⟩
        have hh : hsr any (xs.take (k + 1)).reverse = (c, bg) :: hsr any (xs.take k).reverse := by rw [hsr_snoc any xs k hkx, hcx, hbg]
        have HC : Hid (Calls Try.prog 78 #[.pointer (some ⟨H, 0, none⟩), .int .i64 c, .bool bg] wr fun e w' => e = .returned (.tuple #[]) ∧ PsPost B d n (hsr any (xs.take (k + 1)).reverse) H 0 cur fp wr w') := by
          rw [hh]
          exact pass_any B d n (hsr any (xs.take k).reverse) c bg H 0 cur fp wr e1 (fun hf => by have := (hx.2.1 H hf).2; omega) hx.1 (fun y hy => (hx.2.1 y hy).1) (by omega) e2
        rw [← hbg]
        have HE : Hid (wr.heap[H]? = some (.cells cur 82 (0, 0)) ∧ wr.ownsRow (H + 1) 4 1 (.slice av (k + 1) cv) (k + 1) (((List.range (k + 1)).map fun p => endsAt n any (xs.take p).reverse).map Value.bool) ∧ Chg fp H w wr ∧ H + 1 ≤ wr.heap.size) := ⟨e1, e3, e4, e6⟩
        have HK : Hid (k < xs.length) := hkx
        obtain ⟨em, hem⟩ : ∃ em, em = n.emp := ⟨_, rfl⟩
        have HEM : Hid (em = n.emp) := hem
        have HC3 : Hid (∀ w2, PsPost B d n (hsr any (xs.take (k + 1)).reverse) H 0 cur fp wr w2 → w2.cell? ⟨H, 3, none⟩ = some (.bool em)) := by
          intro w2 ⟨p1, p2, _⟩
          cases d with
          | zero => exact p2.elim
          | succ d =>
            obtain ⟨_, _, _, _, h, _⟩ := p2
            rw [cell_of_row w2 H 3 _ _ _ p1, hem]
            have := (five_at h).2.2.2.1
            simpa using this
        clear e1 e2 e3 e4 e5 e6 hx hcl hbB hc hcx hbg hh hkx hem
        go_wp2_with fail
        refine HC.out.mono ?_
        rintro e w2 ⟨rfl, hp2⟩
        obtain ⟨c4, o2, s2⟩ := en_pass HX.out.1 HX.out.2.1 HS0.out.2 HK.out HE.out.1 HE.out.2.1 HE.out.2.2.2 hp2
        have c3 := HC3.out w2 hp2
        have HP2 : Hid (PsPost B d n (hsr any (xs.take (k + 1)).reverse) H 0 cur fp wr w2) := hp2
        have HO2 : Hid (w2.ownsRow (H + 1) 4 1 (.slice av (k + 1) cv) (k + 1) (((List.range (k + 1)).map fun p => endsAt n any (xs.take p).reverse).map Value.bool)) := o2
        obtain ⟨en, hen⟩ : ∃ en, en = n.end (hsr any (xs.take (k + 1)).reverse) := ⟨_, rfl⟩
        rw [← hen] at c4
        have HEN2 : Hid (en = n.end (hsr any (xs.take (k + 1)).reverse)) := hen
        have HNX : Hid (∀ (w1 : World) (q : Bool) (g cap : Nat), q = (en || (any && em)) → w1.ownsRow (H + 1) 4 1 (.slice (some ⟨g, 0, none⟩) (k + 1 + 1) cap) (k + 1 + 1) (((List.range (k + 1)).map fun p => endsAt n any (xs.take p).reverse).map Value.bool ++ [.bool q]) → (w2.alloc (.cells #[.bool q] 4)).grownBy w1 (Value.slice av (k + 1) cv).ownBlock → EnAt B d n any xs H fp (k + 1) (.slice (some ⟨g, 0, none⟩) (k + 1 + 1) cap) w w1) := by
          intro w1 q g cap hq h1 h2
          exact en_step HX.out.1 HX.out.2.1 HS0.out.2 HK.out HO2.out HE.out.2.2.1 s2 HP2.out _ q (by rw [← HEN2.out, ← HEM.out]; exact hq) g cap h1 h2
        clear hp2 o2 hen HC3 HC HE HEM
        cases en
        all_goals cases any
        all_goals
          go_wp2_with (at_builtin; refine wpList_append_lies _ rfl _ _ 27 rfl (H + 1) 4 i0 _ 1 1 Try.underlying27 HI.out.1 HI.out.2.1 HI.out.2.2.1 HI.out.2.2.2 rfl (by decide) (.slice av (k + 1) cv) (k + 1) (((List.range (k + 1)).map fun p => endsAt n _ (xs.take p).reverse).map Value.bool) rfl (own_alloc HO2.out _) ⟨w2.heap.size, 0, none⟩ 1 1 [.bool _] rfl rfl (World.news_of_block (cs := #[.bool _]) (t := 4) (fr := (0, 0)) (heap_alloc_new w2 _)) (by simp [Value.oneCell']) (by omega) (by unfold maxLen; omega) (by omega) (by simp; omega) _ rfl (fun g cap w1 h1 h2 h3 h4 => ?_); have HAT := HNX.out w1 _ g cap (by simp) h1 h2; have HAT2 : Hid _ := HAT; clear HAT h1 h2 h3 h4)
          go_roundw
          case rel => (repeat apply Exists.intro); exact ⟨⟨k + 1, by omega, by go_num, by simp, HAT2.out⟩, rfl⟩
          case measure => simp [intOf]; omega
      · obtain rfl : k = len := by omega
        have HFIN : Hid (∃ v, Ending.returned (Value.slice av (k + 1) cv) = .returned v ∧ wr.ownsRow (w.heap.size + 1) 4 1 v (k + 1) ((endsL n any xs).map Value.bool) ∧ Below B w wr) := by
          refine ⟨_, rfl, ?_, e4.below (fun y hy => (hx.2.1 y hy).1) hx.1 (by have := HS0.out; omega)⟩
          rw [← HS0.out.2]
          unfold endsL
          rw [hx.2.2.2.1]
          exact e3
        clear e1 e2 e3 e4 e5 e6 hx
        go_wp2
        go_ret
        exact HFIN.out
end Go.Proofs.Ytjbhfonokgkalaa
