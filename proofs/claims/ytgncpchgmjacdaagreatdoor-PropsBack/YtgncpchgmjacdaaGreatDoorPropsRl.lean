/- The walks of the reference's Lines, number, One: the lines of a text, the range of a line. -/
import Derived.Test.YtgncpchgmjacdaaGreatDoorPropsRk
import Derived.Test.YtgncpchgmjacdaaGreatDoorPropsRf
import Derived.Test.YtgncpchgmjacdaaGreatDoorPropsOw
namespace Go.Proofs.YtgncpchgmjacdaaGreatDoor
open Go.RowKit
set_option linter.unusedVariables false

theorem str_mid (xs : List Int) (i n : Nat) (hi : i ≤ n) (h : n ≤ xs.length) (W : World) : (Instr.slice 9 (.string (strOfNums xs)) (some (.int .i64 i)) (some (.int .i64 n)) none).run Tryz.prog W = .ok (.string (strOfNums ((xs.take n).drop i))) W := by
  rw [run_slice_string W 9 _ .i64 .i64 i n Tryz.underlying9 (by omega) (by omega) (by rw [strOfNums_size]; omega)]
  congr 2
  apply str_ext
  rw [Lib.extract_data, strOfNums_data, strOfNums_data]
  simp [List.drop_take]

/-- Where Lines stands: what is read, from where the line under way begins, where it is. -/
def LnAt (bs : List Int) (L : List (List Int)) (f k : Nat) : Prop := f ≤ k ∧ k ≤ bs.length ∧ L.length ≤ k ∧ linesOf bs = L ++ linesAt ((bs.take k).drop f) (bs.drop k)
theorem lnAt_start (bs : List Int) : LnAt bs [] 0 0 := ⟨by omega, by omega, by simp, by simp [linesOf]⟩
theorem lnAt_nl (bs : List Int) (L : List (List Int)) (f k : Nat) (h : LnAt bs L f k) (hk : k < bs.length) (hc : bs.getD k 0 = 10) : LnAt bs (L ++ [(bs.take k).drop f]) (k + 1) (k + 1) := by
  obtain ⟨h1, h2, h3, h4⟩ := h
  refine ⟨by omega, by omega, by simp; omega, ?_⟩
  have hg : bs[k] = 10 := by simpa [hk] using hc
  have e : (bs.take (k + 1)).drop (k + 1) = [] := List.drop_of_length_le (by rw [List.length_take]; omega)
  rw [h4, List.drop_eq_getElem_cons hk, hg, linesAt, if_pos rfl, List.append_assoc, e]
  rfl
theorem lnAt_on (bs : List Int) (L : List (List Int)) (f k : Nat) (h : LnAt bs L f k) (hk : k < bs.length) (hc : bs.getD k 0 ≠ 10) : LnAt bs L f (k + 1) := by
  obtain ⟨h1, h2, h3, h4⟩ := h
  refine ⟨by omega, by omega, by omega, ?_⟩
  have hg : bs[k] ≠ 10 := by simpa [hk] using hc
  rw [h4, List.drop_eq_getElem_cons hk, linesAt, if_neg hg]
  congr 2
  rw [take_s bs k hk, List.drop_append_of_le_length (by simp; omega)]
  congr 1
  simp [hk]
theorem lnAt_end (bs : List Int) (L : List (List Int)) (f : Nat) (h : LnAt bs L f bs.length) : linesOf bs = if f < bs.length then L ++ [bs.drop f] else L := by
  obtain ⟨h1, h2, h3, h4⟩ := h
  rw [h4, List.drop_length, List.take_length, linesAt]
  by_cases hf : f < bs.length
  · rw [if_pos hf, if_neg (by intro e; have := congrArg List.length e; simp at this; omega)]
  · rw [if_neg hf, if_pos (List.drop_of_length_le (by omega)), List.append_nil]
theorem lnAt_rng (bs : List Int) (hr : ∀ y ∈ bs, 0 ≤ y ∧ y ≤ 255) : ∀ s ∈ linesOf bs, (∀ y ∈ s, 0 ≤ y ∧ y ≤ 255) ∧ s.length ≤ bs.length := by
  have key : ∀ (bs cur : List Int), (∀ y ∈ cur, 0 ≤ y ∧ y ≤ 255) → (∀ y ∈ bs, 0 ≤ y ∧ y ≤ 255) → ∀ s ∈ linesAt cur bs, (∀ y ∈ s, 0 ≤ y ∧ y ≤ 255) ∧ s.length ≤ cur.length + bs.length := by
    intro bs
    induction bs with
    | nil =>
      intro cur hc _ s hs
      unfold linesAt at hs
      split at hs
      · cases hs
      · rw [List.mem_singleton.1 hs]; exact ⟨hc, by simp⟩
    | cons c r ih =>
      intro cur hc hr s hs
      unfold linesAt at hs
      split at hs
      · rcases List.mem_cons.1 hs with rfl | hs
        · exact ⟨hc, by simp⟩
        · have := ih [] (by simp) (fun y hy => hr y (by simp [hy])) s hs
          exact ⟨this.1, by have := this.2; simp at this; simp; omega⟩
      · have := ih (cur ++ [c]) (by
          intro y hy
          rcases List.mem_append.1 hy with hy | hy
          · exact hc y hy
          · rw [List.mem_singleton.1 hy]; exact hr c (by simp)) (fun y hy => hr y (by simp [hy])) s hs
        exact ⟨this.1, by have := this.2; simp at this; simp; omega⟩
  intro s hs
  have := key bs [] (by simp) hr s hs
  exact ⟨this.1, by have := this.2; simp at this; exact this⟩
theorem ln_count (bs : List Int) : (linesOf bs).length ≤ bs.length := by
  have key : ∀ (bs cur : List Int), (linesAt cur bs).length ≤ cur.length + bs.length := by
    intro bs
    induction bs with
    | nil =>
      intro cur
      unfold linesAt
      split
      · simp
      · rename_i h; cases cur with
        | nil => exact absurd rfl h
        | cons c r => simp
    | cons c r ih =>
      intro cur
      unfold linesAt
      split
      · have := ih []; simp at this; simp; omega
      · have := ih (cur ++ [c]); simp at this; simp; omega
  have := key bs []
  simpa [linesOf] using this

set_option maxHeartbeats 4000000 in
theorem linesR_any (bs : List Int) (w : World) (hr : ∀ y ∈ bs, 0 ≤ y ∧ y ≤ 255) (hm : bs.length ≤ 4000000000) :
    Calls Tryz.prog 42 #[.string (strOfNums bs)] w fun e w' => Below w.heap.size w w' ∧ ∃ v, e = .returned v ∧ w'.ownsRow w.heap.size 9 1 v (linesOf bs).length (flatN (linesOf bs)) := by
  have HR : Hid (∀ y ∈ bs, 0 ≤ y ∧ y ≤ 255) := hr
  obtain ⟨s, hs⟩ : ∃ s, s = strOfNums bs := ⟨_, rfl⟩
  have hsz : s.size = bs.length := by rw [hs]; exact strOfNums_size bs
  obtain ⟨n, hn⟩ : ∃ n, n = bs.length := ⟨_, rfl⟩
  rw [← hn] at hsz hm
  rw [← hs]
  have HS : Hid (s = strOfNums bs) := hs
  have HN : Hid (n = bs.length) := hn
  have HM : Hid (n ≤ 4000000000) := hm
  have hmi : (n : Int) ≤ 4000000000 := by omega
  have HXX : Hid (∀ k : Nat, k < n → ∀ W : World, (Instr.index 9 (.string s) (.int .i64 k)).run Tryz.prog W = .ok (.int .u8 (bs.getD k 0)) W) := by
    intro k hk W
    rw [HS.out]
    exact str_at bs k (by rw [← HN.out]; exact hk) HR.out W
  obtain ⟨i1, hi, hz0, hz1, hz2⟩ := info_parts info_T
  have HI1 : Hid (Tryz.prog.info? 9 = some i1 ∧ i1.zero = some (.string ⟨#[]⟩) ∧ i1.size = 1 ∧ i1.bytes = 16) := ⟨hi, hz0, hz1, hz2⟩
  clear hi hz0 hz1 hz2 hs hn hr hm
  have HAPP : Hid (∀ (wr : World) (L : List (List Int)) (u : Value) (x : List Int) (sx : ByteArray), sx = strOfNums x → wr.ownsRow w.heap.size 9 1 u L.length (flatN L) → Below w.heap.size w wr → 
      (wr.alloc (.cells #[.string sx] 9)).ownsRow w.heap.size 9 1 u L.length (flatN L) ∧ (∀ j u, [Value.string sx][j]? = some u → (wr.alloc (.cells #[.string sx] 9)).cell? ((⟨wr.heap.size, 0, none⟩ : Addr).add j) = some u) ∧
      ∀ v' w', w'.ownsRow w.heap.size 9 1 v' (L.length + 1) (flatN L ++ [.string sx]) → (wr.alloc (.cells #[.string sx] 9)).grownBy w' u.ownBlock → w'.ownsRow w.heap.size 9 1 v' (L ++ [x]).length (flatN (L ++ [x])) ∧ Below w.heap.size w w') := by
    intro wr L u x sx hsx hO hB
    refine ⟨hO.kept (row := none) ⟨rfl, rfl, rfl, by simp, fun j hj _ => by rw [Below.heap_alloc _ _ _ hj]⟩ (Classical.em _), ?_, ?_⟩
    · intro j u hu
      rw [add_lit, Nat.zero_add, cell_of_row _ wr.heap.size j _ _ _ (heap_alloc_new wr _)]
      simpa using hu
    · intro v' w' h1 h2
      refine ⟨?_, (hB.alloc hB.size _).grown h2 (by simp; have := hB.size; omega) (fun j hj => (hO.lt j hj).1)⟩
      rw [hsx] at h1
      simpa [flatN] using h1
  go_enter Tryz.func42, Tryz.ntmps42
  go_wp2
  go_loopw [3, 4, 5] (fun x3 x4 x5 wr => ∃ (f k : Nat) (L : List (List Int)), x4 = .int .i64 f ∧ x5 = .int .i64 k ∧ LnAt bs L f k ∧ wr.ownsRow w.heap.size 9 1 x3 L.length (flatN L) ∧ Below w.heap.size w wr) (fun _ _ x5 _ => n - (intOf x5).toNat)
  case atStart => exact ⟨0, 0, [], rfl, rfl, lnAt_start bs, World.ownsRow_nil _ _ _ _, Below.refl _ _⟩
  case round =>
    obtain ⟨f, k, L, hx4, hx5, hat, hown, hbel⟩ := hrel
    subst hx4 hx5
    have hfk : f ≤ k := hat.1
    have hkn : k ≤ n := by rw [HN.out]; exact hat.2.1
    have HLK : Hid (L.length ≤ k) := hat.2.2.1
    have HAT : Hid (LnAt bs L f k) := hat
    have HO : Hid (wr.ownsRow w.heap.size 9 1 u3 L.length (flatN L)) := hown
    have HB : Hid (Below w.heap.size w wr) := hbel
    clear hat hown hbel
    by_cases hlt : k < n
    · have hix := HXX.out k hlt
      obtain ⟨x, hxd⟩ : ∃ x, x = bs.getD k 0 := ⟨_, rfl⟩
      rw [← hxd] at hix
      have HXD : Hid (x = bs.getD k 0) := hxd
      clear hxd
      by_cases h10 : x = 10
      · have HNX : Hid (LnAt bs (L ++ [(bs.take k).drop f]) (k + 1) (k + 1)) := lnAt_nl bs L f k HAT.out (by rw [← HN.out]; exact hlt) (by rw [← HXD.out]; exact h10)
        obtain ⟨sx, hsx⟩ : ∃ sx, sx = strOfNums ((bs.take k).drop f) := ⟨_, rfl⟩
        have hcut : ∀ W : World, (Instr.slice 9 (.string s) (some (.int .i64 f)) (some (.int .i64 k)) none).run Tryz.prog W = .ok (.string sx) W := by
          intro W
          rw [HS.out, hsx]
          exact str_mid bs f k hfk (by rw [← HN.out]; omega) W
        obtain ⟨q1, q2, q3⟩ := HAPP.out wr L u3 ((bs.take k).drop f) sx hsx HO.out HB.out
        have HQ1 : Hid ((wr.alloc (.cells #[.string sx] 9)).ownsRow w.heap.size 9 1 u3 L.length (flatN L)) := q1
        have HQ2 : Hid (∀ j u, [Value.string sx][j]? = some u → (wr.alloc (.cells #[.string sx] 9)).cell? ((⟨wr.heap.size, 0, none⟩ : Addr).add j) = some u) := q2
        have HQ3 : Hid (∀ v' w', w'.ownsRow w.heap.size 9 1 v' (L.length + 1) (flatN L ++ [.string sx]) → (wr.alloc (.cells #[.string sx] 9)).grownBy w' u3.ownBlock → w'.ownsRow w.heap.size 9 1 v' (L ++ [(bs.take k).drop f]).length (flatN (L ++ [(bs.take k).drop f])) ∧ Below w.heap.size w w') := q3
        clear hsx q1 q2 q3
        go_wp2_with (at_builtin; refine wpList_append_own _ rfl _ _ 35 rfl w.heap.size 9 i1 _ 1 16 Tryz.underlying35 HI1.out.1 HI1.out.2.1 HI1.out.2.2.1 HI1.out.2.2.2 rfl (by decide) _ L.length (flatN L) rfl HQ1.out ⟨wr.heap.size, 0, none⟩ 1 1 [.string sx] rfl rfl HQ2.out (by intro u hu; rw [List.mem_singleton.1 hu]; rfl) (by have := HLK.out; have := HM.out; unfold maxLen; omega) (by have := HLK.out; have := HM.out; omega) (by simp; have := HB.out.size; omega) (fun v' w' h1 h2 _ => ?_); have HF := HQ3.out v' w' h1 h2; have HFF : Hid _ := HF; clear HF h1 h2)
        go_roundw
        case rel => exact ⟨k + 1, k + 1, L ++ [(bs.take k).drop f], by go_num, by go_num, HNX.out, HFF.out.1, HFF.out.2⟩
        case measure => simp [intOf]; omega
      · have HNX : Hid (LnAt bs L f (k + 1)) := lnAt_on bs L f k HAT.out (by rw [← HN.out]; exact hlt) (by rw [← HXD.out]; exact h10)
        go_wp2
        go_roundw
        case rel => exact ⟨f, k + 1, L, rfl, by go_num, HNX.out, HO.out, HB.out⟩
        case measure => simp [intOf]; omega
    · obtain rfl : k = n := by omega
      have HEND : Hid (linesOf bs = if f < k then L ++ [bs.drop f] else L) := by
        show _ = _
        have := HAT.out
        rw [HN.out] at this
        rw [lnAt_end bs L f this, ← HN.out]
      by_cases hf : f < k
      · rw [if_pos hf] at HEND
        obtain ⟨sx, hsx⟩ : ∃ sx, sx = strOfNums (bs.drop f) := ⟨_, rfl⟩
        have hcut : ∀ W : World, (Instr.slice 9 (.string s) (some (.int .i64 f)) none none).run Tryz.prog W = .ok (.string sx) W := by
          intro W
          rw [HS.out, hsx]
          exact str_drop bs f (by rw [← HN.out]; omega) W
        obtain ⟨q1, q2, q3⟩ := HAPP.out wr L u3 (bs.drop f) sx hsx HO.out HB.out
        have HQ1 : Hid ((wr.alloc (.cells #[.string sx] 9)).ownsRow w.heap.size 9 1 u3 L.length (flatN L)) := q1
        have HQ2 : Hid (∀ j u, [Value.string sx][j]? = some u → (wr.alloc (.cells #[.string sx] 9)).cell? ((⟨wr.heap.size, 0, none⟩ : Addr).add j) = some u) := q2
        have HQ3 : Hid (∀ v' w', w'.ownsRow w.heap.size 9 1 v' (L.length + 1) (flatN L ++ [.string sx]) → (wr.alloc (.cells #[.string sx] 9)).grownBy w' u3.ownBlock → w'.ownsRow w.heap.size 9 1 v' (L ++ [bs.drop f]).length (flatN (L ++ [bs.drop f])) ∧ Below w.heap.size w w') := q3
        clear hsx q1 q2 q3
        go_wp2_with (at_builtin; refine wpList_append_own _ rfl _ _ 35 rfl w.heap.size 9 i1 _ 1 16 Tryz.underlying35 HI1.out.1 HI1.out.2.1 HI1.out.2.2.1 HI1.out.2.2.2 rfl (by decide) _ L.length (flatN L) rfl HQ1.out ⟨wr.heap.size, 0, none⟩ 1 1 [.string sx] rfl rfl HQ2.out (by intro u hu; rw [List.mem_singleton.1 hu]; rfl) (by have := HLK.out; have := HM.out; unfold maxLen; omega) (by have := HLK.out; have := HM.out; omega) (by simp; have := HB.out.size; omega) (fun v' w' h1 h2 _ => ?_); have HF := HQ3.out v' w' h1 h2; have HFF : Hid _ := HF; clear HF h1 h2)
        go_ret
        rw [HEND.out]
        exact ⟨HFF.out.2, _, rfl, HFF.out.1⟩
      · rw [if_neg hf] at HEND
        go_wp2
        go_ret
        rw [HEND.out]
        exact ⟨HB.out, _, rfl, HO.out⟩
end Go.Proofs.YtgncpchgmjacdaaGreatDoor
