/- The walk of the statement PropsOne: a character is of one class. -/
import Derived.Test.YtchdklbekfdgdaaGreatDoorPropsOm
import Derived.Test.YtchdklbekfdgdaaGreatDoorPropsY
import Derived.Laws.AppendOwnNone
namespace Go.Proofs.YtchdklbekfdgdaaGreatDoor
open Go.RowKit
set_option linter.unusedVariables false

theorem info_T : (Tryz.prog.info? 9).map (fun i => (i.zero, i.size, i.bytes)) = some (some (.string ⟨#[]⟩), 1, 16) := by kernel_rfl
/-- The cells of names. -/
def flatN (ns : List (List Int)) : List Value := ns.map fun s => .string (strOfNums s)
theorem own_rdS {w : World} {B : Nat} {v : Value} {n : Nat} {ns : List (List Int)} (h : w.ownsRow B 9 1 v n (flatN ns)) : ∃ a cap, v = .slice a n cap ∧ n ≤ cap ∧ cap ≤ 9223372036854775807 ∧ RdS w a n ns := by
  have hl : ns.length = n := by have := h.1; unfold flatN at this; simpa using this
  rcases h.2 with ⟨rfl, rfl⟩ | ⟨g, cap, cur, rfl, hb, hg, hn, hm, hs, ht⟩
  · exact ⟨none, 0, rfl, by omega, by omega, hl, fun hp => absurd hp (by omega)⟩
  · refine ⟨_, cap, rfl, hn, by simpa [maxLen] using hm, hl, fun hp => ⟨g, 0, rfl, fun i hi => ?_⟩⟩
    rw [Nat.zero_add, cell_of_row w g i _ _ _ hg]
    have h1 : (cur.toList.take (n * 1))[i]? = (flatN ns)[i]? := by rw [ht]
    rw [List.getElem?_take, if_pos (by omega)] at h1
    have h2 : (flatN ns)[i]? = some (.string (strOfNums (ns.getD i []))) := by unfold flatN; simp [show i < ns.length by omega]
    rw [h2] at h1
    simpa using h1
theorem own_cap {w : World} {B : Nat} {e : TypeId} {s n m cap : Nat} {a : Option Addr} {xs : List Value} (h : w.ownsRow B e s (.slice a m cap) n xs) : a = none → cap = 0 := by
  intro ha
  rcases h.2 with ⟨h1, _⟩ | ⟨g, c, cur, h1, _⟩
  · cases h1; rfl
  · cases h1; cases ha
theorem nms_at {ns : List (List Int)} (h : NmAt ns) (hr : ∀ s ∈ ns, ∀ y ∈ s, 0 ≤ y ∧ y ≤ 255) : Nms ns := by
  intro s hs
  refine ⟨hr s hs, ?_⟩
  have := h.2.2.2 s hs
  unfold nmOk at this
  simp at this
  omega
theorem nm_rng (l : List Rg) (hrs : RgS l) : ∀ s ∈ nmR l, ∀ y ∈ s, 0 ≤ y ∧ y ≤ 255 := by
  have key : ∀ (l : List Rg) (ns : List (List Int)), RgS l → (∀ s ∈ ns, ∀ y ∈ s, 0 ≤ y ∧ y ≤ 255) → ∀ s ∈ l.foldl nmS ns, ∀ y ∈ s, 0 ≤ y ∧ y ≤ 255 := by
    intro l
    induction l with
    | nil => intro ns _ h; exact h
    | cons x r ih =>
      intro ns hl h
      refine ih (nmS ns x) (fun y hy => hl y (by simp [hy])) ?_
      intro s hs
      unfold nmS at hs
      split at hs
      · rcases List.mem_append.1 hs with hs | hs
        · exact h s hs
        · rw [List.mem_singleton.1 hs]; exact hl x (by simp)
      · exact h s hs
  exact key l [otT] hrs (by decide)
theorem clS_rng (rs : List Rg) (hrs : RgS rs) : RgS (clR rs) := by
  have key : ∀ (l : List Rg) (out : List Rg), RgS l → RgS out → RgS (l.foldl clS out) := by
    intro l
    induction l with
    | nil => intro out _ h; exact h
    | cons x r ih =>
      intro out hl h
      refine ih (clS out x) (fun y hy => hl y (by simp [hy])) ?_
      intro s hs
      unfold clS at hs
      split at hs
      · rcases List.mem_append.1 hs with hs | hs
        · exact h s hs
        · rw [List.mem_singleton.1 hs]; exact hl x (by simp)
      · exact h s hs
  exact key (rs.take 40) [] (fun r hr => hrs r (List.mem_of_mem_take hr)) (fun r hr => by simp at hr)
theorem ot_s : strOfNums otT = ⟨#[95, 111, 116, 104, 101, 114]⟩ := by apply str_ext; rw [strOfNums_data]; rfl
theorem lit_own (w : World) (x1 x2 : Int) (x3 : List Int) (sx : ByteArray) (h : sx = strOfNums x3) : (w.alloc (.cells #[.int .i32 x1, .int .i32 x2, .string sx] 39)).ownsRow w.heap.size 39 3 (.slice (some ⟨w.heap.size, 0, none⟩) 1 1) 1 (flatR [(x1, x2, x3)]) := by
  refine ⟨rfl, .inr ⟨w.heap.size, 1, _, rfl, Nat.le_refl _, heap_alloc_new w _, by omega, by unfold maxLen; omega, rfl, ?_⟩⟩
  rw [h]; rfl
theorem own_cells {w : World} {B : Nat} {e : TypeId} {s n cap g : Nat} {xs : List Value} (h : w.ownsRow B e s (.slice (some ⟨g, 0, none⟩) n cap) n xs) : ∀ j u, xs[j]? = some u → w.cell? ((⟨g, 0, none⟩ : Addr).add j) = some u := by
  intro j u hu
  rcases h.2 with ⟨h1, _⟩ | ⟨g', cap', cur, h1, _, hg, _, _, _, ht⟩
  · cases h1
  · cases h1
    rw [add_lit, Nat.zero_add, cell_of_row w g j _ _ _ hg]
    rw [← ht, List.getElem?_take] at hu
    split at hu
    · simpa using hu
    · cases hu
theorem flatR_all1 (rs : List Rg) : ∀ v ∈ flatR rs, v.oneCell' = true := by
  intro v hv
  unfold flatR at hv
  obtain ⟨x, _, hx⟩ := List.mem_flatMap.1 hv
  exact encR_one x v hx
/-- What holds behind the append to few. -/
def MidP (w3 : World) (B : Nat) (few : List Rg) (x : Rg) (sx : ByteArray) (u9 v' : Value) (w' : World) (b off : Nat) : Prop :=
  w'.ownsRow w3.heap.size 39 3 v' (few.length + 1) (flatR (few ++ [x])) ∧ Below w3.heap.size w3 w' ∧ w'.ownsRow B 39 3 u9 few.length (flatR few.reverse) ∧ (∀ j, v'.ownBlock = some j → j < w'.heap.size) ∧
    w'.cell? ⟨b, off, none⟩ = some (.int .i32 x.1) ∧ w'.cell? ⟨b, off + 1, none⟩ = some (.int .i32 x.2.1) ∧ w'.cell? ⟨b, off + 2, none⟩ = some (.string sx)
/-- What the second loop keeps. -/
def TwoP (w3 : World) (few : List Rg) (x8 x9 : Value) (wl : World) : Prop :=
  ∃ B : Nat, w3.heap.size ≤ B ∧ wl.ownsRow w3.heap.size 39 3 x8 few.length (flatR few) ∧ (∀ j, x8.ownBlock = some j → j < B) ∧ wl.ownsRow B 39 3 x9 few.length (flatR few.reverse) ∧ Below w3.heap.size w3 wl
theorem two_some {w3 w' w'' : World} {B : Nat} {few : List Rg} {x : Rg} {sx : ByteArray} {u9 v' v'' : Value} {b off : Nat} (o : Obj) (h : MidP w3 B few x sx u9 v' w' b off)
    (h1 : w''.ownsRow w'.heap.size 39 3 v'' (1 + few.length) (flatR [x] ++ flatR few.reverse)) (h2 : (w'.alloc o).grownBy w'' (some w'.heap.size)) : TwoP w3 (few ++ [x]) v' v'' w'' := by
  obtain ⟨m1, m2, m3, m4, _⟩ := h
  refine ⟨w'.heap.size, m2.size, ?_, m4, ?_, ?_⟩
  · have k1 : (w'.alloc o).ownsRow w3.heap.size 39 3 v' (few.length + 1) (flatR (few ++ [x])) := m1.kept (row := none) ⟨rfl, rfl, rfl, by simp, fun j hj _ => by rw [Below.heap_alloc _ _ _ hj]⟩ (Classical.em _)
    rw [List.length_append]
    refine k1.kept h2 ?_
    cases hb : v'.ownBlock with
    | none => exact .inl rfl
    | some j => exact .inr (fun e => by have := m4 j hb; cases e; omega)
  · have e : flatR ((few ++ [x]).reverse) = flatR [x] ++ flatR few.reverse := by rw [← flatR_app]; simp
    rw [e, List.length_append, Nat.add_comm]
    exact h1
  · exact (m2.alloc m2.size o).grown h2 (by simp; have := m2.size; omega) (fun j hj => by cases hj; exact m2.size)
theorem two_none {w3 w' : World} {B : Nat} {x : Rg} {sx : ByteArray} {u9 v' : Value} {b off : Nat} (x1 x2 : Int) (x3 : List Int) (hx : x = (x1, x2, x3)) (hs : sx = strOfNums x3) (h : MidP w3 B [] x sx u9 v' w' b off) :
    TwoP w3 [x] v' (.slice (some ⟨w'.heap.size, 0, none⟩) 1 1) (w'.alloc (.cells #[.int .i32 x1, .int .i32 x2, .string sx] 39)) := by
  obtain ⟨m1, m2, m3, m4, _⟩ := h
  refine ⟨w'.heap.size, m2.size, ?_, m4, ?_, m2.alloc m2.size _⟩
  · exact m1.kept (row := none) ⟨rfl, rfl, rfl, by simp, fun j hj _ => by rw [Below.heap_alloc _ _ _ hj]⟩ (Classical.em _)
  · rw [hx]; exact lit_own w' x1 x2 x3 sx hs

set_option maxHeartbeats 8000000 in
theorem propsOne_walk (rs : List Rg) (a : Option Addr) (len cap : Nat) (c : Int) (w : World) (hrd : RdR w a len rs) (hrs : RgS rs) (hln : ∀ r ∈ rs, r.2.2.length ≤ 9223372036854775807) (hm : len ≤ 9223372036854775807) (hg : Gl w) :
    Calls Tryz.prog 7 #[.slice a len cap, .int .i32 c] w fun e w' => e = .returned (.bool true) ∧ Below w.heap.size w w' := by
  have HD : Hid (RdR w a len rs) := hrd
  have HRS : Hid (RgS rs) := hrs
  have HLN : Hid (∀ r ∈ rs, r.2.2.length ≤ 9223372036854775807) := hln
  have HM : Hid (len ≤ 9223372036854775807) := hm
  have HG : Hid (Gl w) := hg
  obtain ⟨i0, hi, hz0, hz1, hz2⟩ := info_parts info_R
  have HI : Hid (Tryz.prog.info? 39 = some i0 ∧ i0.zero = some (.agg #[.int .i32 0, .int .i32 0, .string ⟨#[]⟩]) ∧ i0.size = 3 ∧ i0.bytes = 24) := ⟨hi, hz0, hz1, hz2⟩
  clear hi hz0 hz1 hz2
  obtain ⟨i1, hi, hz0, hz1, hz2⟩ := info_parts info_T
  have HI1 : Hid (Tryz.prog.info? 9 = some i1 ∧ i1.zero = some (.string ⟨#[]⟩) ∧ i1.size = 1 ∧ i1.bytes = 16) := ⟨hi, hz0, hz1, hz2⟩
  obtain ⟨L, hL⟩ : ∃ L, L = clR rs := ⟨_, rfl⟩
  have HCA : Hid (ClAt L ∧ L.length ≤ 40) := by rw [hL]; exact cl_all rs
  have HLR : Hid (RgS L) := by rw [hL]; exact clS_rng rs hrs
  have HCLN : Hid (∀ W, Below w.heap.size w W → Calls Tryz.prog 14 #[.slice a len cap] W fun e w' => Below W.heap.size W w' ∧ ∃ v, e = .returned v ∧ w'.ownsRow W.heap.size 39 3 v L.length (flatR L)) := by
    intro W hW
    rw [hL]
    exact clean_any rs a len cap W (HD.out.later hW) HRS.out HLN.out HM.out
  clear hi hz0 hz1 hz2 hrd hrs hln hm hg hL
  go_enter Tryz.func7, Tryz.ntmps7
  go_wp2_with fail
  refine (shown_any w HG.out).mono ?_
  rintro e w1 ⟨rfl, hb1⟩
  have HB1 : Hid (Below w.heap.size w w1) := hb1
  clear hb1
  go_wp2_with fail
  refine (HCLN.out w1 HB1.out).mono ?_
  rintro e w2 ⟨hb2, v, rfl, hown⟩
  obtain ⟨al, capl, rfl, _, _, hrl⟩ := own_rdR hown
  have HB2 : Hid (Below w.heap.size w w2) := HB1.out.trans (hb2.mono HB1.out.size)
  have HRL : Hid (RdR w2 al L.length L) := hrl
  obtain ⟨n, hn⟩ : ∃ n, n = L.length := ⟨_, rfl⟩
  have HNL : Hid (n = L.length) := hn
  have hn40 : (n : Int) ≤ 40 := by have := HCA.out.2; omega
  rw [← hn] at HRL ⊢
  have HON : Hid ((w2.alloc (.cells #[.string ⟨#[95, 111, 116, 104, 101, 114]⟩] 9)).ownsRow w2.heap.size 9 1 (.slice (some ⟨w2.heap.size, 0, none⟩) 1 1) 1 (flatN [otT])) := by
    refine ⟨rfl, .inr ⟨w2.heap.size, 1, _, rfl, Nat.le_refl _, heap_alloc_new w2 _, by omega, by unfold maxLen; omega, rfl, ?_⟩⟩
    simp [flatN, ot_s]
  have HBA2 : Hid (∀ o : Obj, Below w2.heap.size w2 (w2.alloc o)) := fun o => (Below.refl _ w2).alloc (Nat.le_refl _) o
  clear hb2 hown hrl hn
  go_wp2
  go_loopw [6, 7] (fun x6 x7 wr => ∃ k : Nat, k ≤ n ∧ x7 = .int .i64 k ∧ wr.ownsRow w2.heap.size 9 1 x6 ((L.take k).foldl nmS [otT]).length (flatN ((L.take k).foldl nmS [otT])) ∧ Below w2.heap.size w2 wr) (fun _ x7 _ => n - (intOf x7).toNat)
  case atStart => exact ⟨0, by omega, rfl, HON.out, HBA2.out _⟩
  case round =>
    obtain ⟨k, hk, hx7, hown, hbel⟩ := hrel
    subst hx7
    obtain ⟨ns, hns⟩ : ∃ ns, ns = (L.take k).foldl nmS [otT] := ⟨_, rfl⟩
    rw [← hns] at hown
    have hna : NmAt ns := by rw [hns]; exact nm_fold _ _ ot_at (fun r hr => (HCA.out.1.2 r (List.mem_of_mem_take hr)).2.1)
    have HNA : Hid (NmAt ns) := hna
    have HNR : Hid (∀ s ∈ ns, ∀ y ∈ s, 0 ≤ y ∧ y ≤ 255) := by rw [hns]; exact nm_rng (L.take k) (fun r hr => HLR.out r (List.mem_of_mem_take hr))
    obtain ⟨an, capn, rfl, hmc, _, hrn⟩ := own_rdS hown
    have HRN : Hid (RdS wr an ns.length ns) := hrn
    obtain ⟨m, hm⟩ : ∃ m, m = ns.length := ⟨_, rfl⟩
    have HML : Hid (m = ns.length) := hm
    rw [← hm] at HRN hown hmc ⊢
    have HMC : Hid (m ≤ capn) := hmc
    have HO : Hid (wr.ownsRow w2.heap.size 9 1 (.slice an m capn) m (flatN ns)) := hown
    have HB : Hid (Below w2.heap.size w2 wr) := hbel
    have hm24 : (m : Int) ≤ 24 := by have := hna.2.1; omega
    have HNS : Hid (ns = (L.take k).foldl nmS [otT]) := hns
    clear hns hna hown hbel hrn hm hmc
    by_cases hlt : k < n
    · obtain ⟨b, off, hab, c0, c1, c2⟩ := (HRL.out.later HB.out).at k hlt
      subst hab
      have hkl : k < L.length := by rw [← HNL.out]; exact hlt
      obtain ⟨x, hx⟩ : ∃ x, x = L.getD k (0, 0, []) := ⟨_, rfl⟩
      rw [← hx] at c0 c1 c2
      have hxm : x ∈ L := by rw [hx]; simp [hkl]
      have HST : Hid ((L.take (k + 1)).foldl nmS [otT] = nmS ns x) := by show _ = _; rw [hx, HNS.out]; exact nm_step L k hkl
      have hR := HLR.out x hxm
      obtain ⟨x1, x2, x3⟩ := x
      simp only [] at c0 c1 c2 hR
      obtain ⟨sx, hsx⟩ : ∃ sx, sx = strOfNums x3 := ⟨_, rfl⟩
      rw [← hsx] at c2
      have HSX : Hid (sx = strOfNums x3) := hsx
      obtain ⟨ix, hix⟩ : ∃ ix, ix = ixOf x3 ns := ⟨_, rfl⟩
      have HFD : Hid (Calls Tryz.prog 23 #[.slice an m capn, .string sx] wr fun e w' => e = .returned (.int .i64 ix) ∧ w' = wr) := by
        rw [hsx, hix]; exact find_any ns x3 an m capn wr (nms_at HNA.out HNR.out) hR HRN.out (by omega)
      have hcase : (ix < 0 ∧ x3 ∉ ns) ∨ (¬ ix < 0 ∧ x3 ∈ ns) := by
        rcases ix_cases x3 ns with ⟨h1, h2⟩ | ⟨j, hj, h1, h2, _⟩
        · exact .inl ⟨by rw [hix, h1]; decide, h2⟩
        · exact .inr ⟨by rw [hix, h1]; omega, by rw [← h2]; simp [hj]⟩
      have HSAME : Hid (¬ (x3 ∉ ns ∧ ns.length < 24) → (L.take (k + 1)).foldl nmS [otT] = ns) := by
        intro h
        rw [HST.out]
        unfold nmS
        exact if_neg h
      have HMORE : Hid (x3 ∉ ns ∧ ns.length < 24 → (L.take (k + 1)).foldl nmS [otT] = ns ++ [x3]) := by
        intro h
        rw [HST.out]
        unfold nmS
        exact if_pos h
      clear hx hxm hkl hR hsx hix
      rcases hcase with ⟨hneg, hni⟩ | ⟨hnn, hin⟩
      · by_cases h24 : (m : Int) < 24
        · have HN : Hid ((L.take (k + 1)).foldl nmS [otT] = ns ++ [x3]) := HMORE.out ⟨hni, by rw [← HML.out]; omega⟩
          have HNEW : Hid (∀ j u, [Value.string sx][j]? = some u → (wr.alloc (.cells #[.string sx] 9)).cell? ((⟨wr.heap.size, 0, none⟩ : Addr).add j) = some u) := by
            intro j u hu
            rw [add_lit, Nat.zero_add, cell_of_row _ wr.heap.size j _ _ _ (heap_alloc_new wr _)]
            simpa using hu
          have HOA : Hid ((wr.alloc (.cells #[.string sx] 9)).ownsRow w2.heap.size 9 1 (.slice an m capn) m (flatN ns)) :=
            HO.out.kept (row := none) ⟨rfl, rfl, rfl, by simp, fun j hj _ => by rw [Below.heap_alloc _ _ _ hj]⟩ (Classical.em _)
          have HLT : Hid (∀ j, (Value.slice an m capn).ownBlock = some j → w2.heap.size ≤ j ∧ j < wr.heap.size) := HO.out.lt
          have HFIN : Hid (∀ v' w', w'.ownsRow w2.heap.size 9 1 v' (m + 1) (flatN ns ++ [.string sx]) → (wr.alloc (.cells #[.string sx] 9)).grownBy w' (Value.slice an m capn).ownBlock → w'.ownsRow w2.heap.size 9 1 v' (m + 1) (flatN (ns ++ [x3])) ∧ Below w2.heap.size w2 w') := by
            intro v' w' h1 h2
            refine ⟨?_, (HB.out.alloc HB.out.size _).grown h2 (by simp; have := HB.out.size; omega) (fun j hj => (HLT.out j hj).1)⟩
            rw [HSX.out] at h1
            simpa [flatN] using h1
          clear hni
          go_wp2_with (first | (go_at_call 23; refine HFD.out.mono ?_; rintro e w' ⟨rfl, hw'⟩; obtain rfl : wr = w' := hw'.symm) | (at_builtin; refine wpList_append_own _ rfl _ _ 35 rfl w2.heap.size 9 i1 _ 1 16 Tryz.underlying35 HI1.out.1 HI1.out.2.1 HI1.out.2.2.1 HI1.out.2.2.2 rfl (by decide) _ m (flatN ns) rfl HOA.out ⟨wr.heap.size, 0, none⟩ 1 1 [.string sx] rfl rfl HNEW.out (by intro u hu; rw [List.mem_singleton.1 hu]; rfl) (by unfold maxLen; omega) (by omega) (by simp; have := HB.out.size; omega) (fun v' w' h1 h2 _ => ?_); have HF := HFIN.out v' w' h1 h2; have HFF : Hid _ := HF; clear HF h1 h2))
          go_roundw
          case rel => exact ⟨k + 1, by omega, by go_num, by rw [HN.out, List.length_append, ← HML.out]; exact HFF.out.1, HFF.out.2⟩
          case measure => simp [intOf]; omega
        · have HN : Hid ((L.take (k + 1)).foldl nmS [otT] = ns) := HSAME.out (fun h => by have := h.2; rw [← HML.out] at this; omega)
          clear hni
          go_wp2_with (first | (go_at_call 23; refine HFD.out.mono ?_; rintro e w' ⟨rfl, hw'⟩; obtain rfl : wr = w' := hw'.symm))
          go_roundw
          case rel => exact ⟨k + 1, by omega, by go_num, by rw [HN.out, ← HML.out]; exact HO.out, HB.out⟩
          case measure => simp [intOf]; omega
      · have HN : Hid ((L.take (k + 1)).foldl nmS [otT] = ns) := HSAME.out (fun h => h.1 hin)
        clear hin
        go_wp2_with (first | (go_at_call 23; refine HFD.out.mono ?_; rintro e w' ⟨rfl, hw'⟩; obtain rfl : wr = w' := hw'.symm))
        go_roundw
        case rel => exact ⟨k + 1, by omega, by go_num, by rw [HN.out, ← HML.out]; exact HO.out, HB.out⟩
        case measure => simp [intOf]; omega
    · obtain rfl : n = k := by omega
      have HNM : Hid (Nms ns) := nms_at HNA.out HNR.out
      have HFIND : Hid (∀ (W : World) (s : List Int), (∀ y ∈ s, 0 ≤ y ∧ y ≤ 255) → Below wr.heap.size wr W → Calls Tryz.prog 23 #[.slice an m capn, .string (strOfNums s)] W fun e w' => e = .returned (.int .i64 (ixOf s ns)) ∧ w' = W) :=
        fun W s hs hW => find_any ns s an m capn W HNM.out hs (HRN.out.later hW) (by omega)
      have HRL3 : Hid (RdR wr al n L) := HRL.out.later HB.out
      have HBW3 : Hid (Below w.heap.size w wr) := HB2.out.trans (HB.out.mono HB2.out.size)
      obtain ⟨w3, hw3⟩ : ∃ w3, w3 = wr := ⟨_, rfl⟩
      rw [← hw3] at HFIND HRL3 HBW3 HRN
      have HW3 : Hid (w3 = wr) := hw3
      clear hw3
      go_wp2
      go_loopw [8, 9, 10] (fun x8 x9 x10 wl => ∃ k : Nat, k ≤ n ∧ x10 = .int .i64 k ∧ TwoP w3 (fewR (L.take k) ns) x8 x9 wl) (fun _ _ x10 _ => n - (intOf x10).toNat)
      case atStart => exact ⟨0, by omega, rfl, w3.heap.size, Nat.le_refl _, ⟨rfl, .inl ⟨rfl, rfl⟩⟩, (fun j hj => by cases hj), ⟨rfl, .inl ⟨rfl, rfl⟩⟩, by rw [← HW3.out]; exact Below.refl _ _⟩
      case round =>
        obtain ⟨k, hk, hx10, B, hB0, ho8, hlt8, ho9, hbel⟩ := hrel
        subst hx10
        obtain ⟨few, hfew⟩ : ∃ few, few = fewR (L.take k) ns := ⟨_, rfl⟩
        rw [← hfew] at ho8 ho9
        by_cases hlt : k < n
        · have hkl : k < L.length := by rw [← HNL.out]; exact hlt
          obtain ⟨b, off, hab, c0, c1, c2⟩ := (HRL3.out.later hbel).at k hlt
          subst hab
          obtain ⟨x, hx⟩ : ∃ x, x = L.getD k (0, 0, []) := ⟨_, rfl⟩
          rw [← hx] at c0 c1 c2
          have hxm : x ∈ L := by rw [hx]; simp [hkl]
          have HST : Hid (fewR (L.take (k + 1)) ns = if x.2.2 ∈ ns then few ++ [x] else few) := by show _ = _; rw [hx, hfew]; exact few_step L ns k hkl
          have hR := HLR.out x hxm
          have hfl : few.length ≤ 40 := by
            rw [hfew]
            refine Nat.le_trans (List.length_filter_le _ _) ?_
            simp
            have := HCA.out.2
            omega
          obtain ⟨x1, x2, x3⟩ := x
          simp only [] at c0 c1 c2 hR
          obtain ⟨sx, hsx⟩ : ∃ sx, sx = strOfNums x3 := ⟨_, rfl⟩
          rw [← hsx] at c2
          obtain ⟨ix, hix⟩ : ∃ ix, ix = ixOf x3 ns := ⟨_, rfl⟩
          have HFD : Hid (Calls Tryz.prog 23 #[.slice an m capn, .string sx] wr fun e w' => e = .returned (.int .i64 ix) ∧ w' = wr) := by
            rw [hsx, hix]; exact HFIND.out wr x3 hR hbel
          have hcase : (¬ 0 ≤ ix ∧ x3 ∉ ns) ∨ (0 ≤ ix ∧ x3 ∈ ns) := by
            rcases ix_cases x3 ns with ⟨h1, h2⟩ | ⟨j, hj, h1, h2, _⟩
            · exact .inl ⟨by rw [hix, h1]; decide, h2⟩
            · exact .inr ⟨by rw [hix, h1]; omega, by rw [← h2]; simp [hj]⟩
          rcases hcase with ⟨hneg, hni⟩ | ⟨hnn, hin⟩
          · have HN : Hid (∃ k' : Nat, k' = k + 1 ∧ TwoP w3 (fewR (L.take k') ns) u8 u9 wr) := ⟨k + 1, rfl, B, hB0, by rw [HST.out, if_neg hni]; exact ho8, hlt8, by rw [HST.out, if_neg hni]; exact ho9, hbel⟩
            clear hx hxm hkl hR hsx hix ho8 ho9 hlt8 hB0 hbel hfew hni hfl
            go_wp2_with (first | (go_at_call 23; refine HFD.out.mono ?_; rintro e w' ⟨rfl, hw'⟩; obtain rfl : wr = w' := hw'.symm))
            go_roundw
            case rel => obtain ⟨k', rfl, h⟩ := HN.out; exact ⟨k + 1, by omega, by go_num, h⟩
            case measure => simp [intOf]; omega
          · have HEQ : Hid (fewR (L.take (k + 1)) ns = few ++ [(x1, x2, x3)]) := by show _ = _; rw [HST.out, if_pos hin]
            have HSX : Hid (sx = strOfNums x3) := hsx
            have HFL : Hid (few.length ≤ 40) := hfl
            have HO8 := ho8
            have HMID : Hid (∀ v' w', w'.ownsRow w3.heap.size 39 3 v' (few.length + 1) (flatR few ++ flatR [(x1, x2, x3)]) → (wr.alloc (.cells #[.int .i32 x1, .int .i32 x2, .string sx] 39)).grownBy w' u8.ownBlock → MidP w3 B few (x1, x2, x3) sx u9 v' w' b (off + k * 3)) := by
              intro v' w' h1 h2
              have hb' := (hbel.alloc hbel.size (.cells #[.int .i32 x1, .int .i32 x2, .string sx] 39)).grown h2 (by simp; have := hbel.size; omega) (fun j hj => (ho8.lt j hj).1)
              have k9 : (wr.alloc (.cells #[.int .i32 x1, .int .i32 x2, .string sx] 39)).ownsRow B 39 3 u9 few.length (flatR few.reverse) := ho9.kept (row := none) ⟨rfl, rfl, rfl, by simp, fun j hj _ => by rw [Below.heap_alloc _ _ _ hj]⟩ (Classical.em _)
              have hc := (HRL3.out.later hb').at k hlt
              obtain ⟨b', off', hab', q0, q1, q2⟩ := hc
              cases hab'
              rw [← hx] at q0 q1 q2
              refine ⟨by rw [flatR_app]; exact h1, hb', k9.kept h2 ?_, fun j hj => (h1.lt j hj).2, q0, q1, by rw [hsx]; exact q2⟩
              cases hb : u9.ownBlock with
              | none => exact .inl rfl
              | some j =>
                right
                intro e
                have g1 := (ho9.lt j hb).1
                have g2 := hlt8 j e.symm
                omega
            have HOA : Hid ((wr.alloc (.cells #[.int .i32 x1, .int .i32 x2, .string sx] 39)).ownsRow w3.heap.size 39 3 u8 few.length (flatR few)) := ho8.kept (row := none) ⟨rfl, rfl, rfl, by simp, fun j hj _ => by rw [Below.heap_alloc _ _ _ hj]⟩ (Classical.em _)
            have HNEW : Hid (∀ j u, (flatR [(x1, x2, x3)])[j]? = some u → (wr.alloc (.cells #[.int .i32 x1, .int .i32 x2, .string sx] 39)).cell? ((⟨wr.heap.size, 0, none⟩ : Addr).add j) = some u) := own_cells (lit_own wr x1 x2 x3 sx hsx)
            have HBS : Hid (w3.heap.size ≤ wr.heap.size) := hbel.size
            have h9 := ho9.2
            have HFIN : Hid (∀ v1 v2 w', TwoP w3 (few ++ [(x1, x2, x3)]) v1 v2 w' → TwoP w3 (fewR (L.take (k + 1)) ns) v1 v2 w') := by
              intro v1 v2 w' h
              rw [HEQ.out]; exact h
            clear hx hxm hkl hR hsx hix ho8 HO8 ho9 hlt8 hB0 hbel hfew hin hfl HST
            rcases h9 with ⟨h9, hnf⟩ | ⟨g, cap9, cur, h9, _⟩
            · subst h9
              have hfn : few = [] := List.eq_nil_of_length_eq_zero hnf
              subst hfn
              clear hnf
              go_wp2_with (first | (go_at_call 23; refine HFD.out.mono ?_; rintro e w' ⟨rfl, hw'⟩; obtain rfl : wr = w' := hw'.symm) | (at_builtin; refine wpList_append_own _ rfl _ _ 23 rfl w3.heap.size 39 i0 _ 3 24 Tryz.underlying23 HI.out.1 HI.out.2.1 HI.out.2.2.1 HI.out.2.2.2 rfl (by decide) u8 0 (flatR []) rfl HOA.out ⟨wr.heap.size, 0, none⟩ 1 1 (flatR [(x1, x2, x3)]) rfl rfl HNEW.out (flatR_all1 _) (by unfold maxLen; omega) (by omega) (by simp; have := HBS.out; omega) (fun v' w' h1 h2 _ => ?_); have HF := HMID.out v' w' h1 h2; have HFF : Hid (MidP w3 B [] (x1, x2, x3) sx (.slice none 0 0) v' w' b (off + k * 3)) := HF; obtain ⟨_, _, _, _, q0, q1, q2⟩ := HF; simp only [] at q0 q1; clear h1 h2) | (at_builtin; refine wpList_append_own_none rfl _ _ 23 rfl _ 39 i0 3 Tryz.underlying23 HI.out.1 _ 1 (flatR [(x1, x2, x3)]) rfl (lit_own w' x1 x2 x3 sx HSX.out) rfl ?_))
              go_roundw
              case rel => exact ⟨k + 1, by omega, by go_num, HFIN.out _ _ _ (two_none x1 x2 x3 rfl HSX.out HFF.out)⟩
              case measure => simp [intOf]; omega
            · subst h9
              have HNW2 : Hid (∀ (w' : World) (v' : Value) (o : Obj), MidP w3 B few (x1, x2, x3) sx (.slice (some ⟨g, 0, none⟩) few.length cap9) v' w' b (off + k * 3) → ∀ j u, (flatR few.reverse)[j]? = some u → (w'.alloc o).cell? ((⟨g, 0, none⟩ : Addr).add j) = some u) := by
                intro w' v' o h
                have h3 : (w'.alloc o).ownsRow B 39 3 (.slice (some ⟨g, 0, none⟩) few.length cap9) few.length (flatR few.reverse) := h.2.2.1.kept (row := none) ⟨rfl, rfl, rfl, by simp, fun j hj _ => by rw [Below.heap_alloc _ _ _ hj]⟩ (Classical.em _)
                exact own_cells h3
              have HFLN : Hid ((flatR few.reverse).length = few.length * 3) := by show _ = _; rw [flatR_len]; simp; omega
              go_wp2_with (first | (go_at_call 23; refine HFD.out.mono ?_; rintro e w' ⟨rfl, hw'⟩; obtain rfl : wr = w' := hw'.symm) | (at_builtin; refine wpList_append_own _ rfl _ _ 23 rfl w3.heap.size 39 i0 _ 3 24 Tryz.underlying23 HI.out.1 HI.out.2.1 HI.out.2.2.1 HI.out.2.2.2 rfl (by decide) u8 few.length (flatR few) rfl HOA.out ⟨wr.heap.size, 0, none⟩ 1 1 (flatR [(x1, x2, x3)]) rfl rfl HNEW.out (flatR_all1 _) (by have := HFL.out; unfold maxLen; omega) (by have := HFL.out; omega) (by simp; have := HBS.out; omega) (fun v' w' h1 h2 _ => ?_); have HF := HMID.out v' w' h1 h2; have HFF : Hid (MidP w3 B few (x1, x2, x3) sx (.slice (some ⟨g, 0, none⟩) few.length cap9) v' w' b (off + k * 3)) := HF; obtain ⟨_, _, _, _, q0, q1, q2⟩ := HF; simp only [] at q0 q1; clear h1 h2) | (at_builtin; refine wpList_append_own _ rfl _ _ 23 rfl w'.heap.size 39 i0 _ 3 24 Tryz.underlying23 HI.out.1 HI.out.2.1 HI.out.2.2.1 HI.out.2.2.2 rfl (by decide) _ 1 (flatR [(x1, x2, x3)]) rfl (lit_own w' x1 x2 x3 sx HSX.out) ⟨g, 0, none⟩ few.length cap9 (flatR few.reverse) rfl HFLN.out (HNW2.out w' v' _ HFF.out) (flatR_all1 _) (by have := HFL.out; unfold maxLen; omega) (by have := HFL.out; omega) (by simp) (fun v2 w2' h1 h2 _ => ?_); have HF2 := HFIN.out _ _ _ (two_some _ HFF.out h1 h2); have HFF2 : Hid _ := HF2; clear HF2 h1 h2))
              go_roundw
              case rel => exact ⟨k + 1, by omega, by go_num, HFF2.out⟩
              case measure => simp [intOf]; omega
        · obtain rfl : n = k := by omega
          have hLt : L.take n = L := List.take_of_length_le (by rw [HNL.out]; exact Nat.le_refl _)
          rw [hLt] at hfew
          have hfa := few_all L ns HCA.out.1
          rw [← hfew] at hfa
          have hba := back_all few ns hfa.1 hfa.2.1
          have hflr : RgS few := by rw [hfew]; exact fun r hr => HLR.out r (List.mem_filter.1 hr).1
          have hfl : few.length ≤ 40 := Nat.le_trans hfa.2.2 HCA.out.2
          obtain ⟨a8, cap8, hu8, _, _, hr8⟩ := own_rdR ho8
          subst hu8
          obtain ⟨a9, cap9, hu9, _, _, hr9⟩ := own_rdR ho9
          subst hu9
          have hcls := cls_of_at ns HNA.out
          have HNEW1 : Hid (Calls Tryz.prog 17 #[.slice a8 few.length cap8, .slice an m capn] wr (NewOk few ns wr)) :=
            new_ok few ns a8 an few.length cap8 m capn wr hr8 (own_cap ho8) hflr HNM.out (HRN.out.later hbel) HMC.out (by omega) (by omega) hcls (fun r hr => (hfa.2.1 r hr).1) hfa.1 (fun r hr => (hfa.2.1 r hr).2)
          have HNEW2 : Hid (∀ W, Below wr.heap.size wr W → Calls Tryz.prog 17 #[.slice a9 few.length cap9, .slice an m capn] W (NewOk few.reverse ns W)) := by
            intro W hW
            have hr9' : RdR W a9 few.reverse.length few.reverse := by have := hr9.later hW; rw [List.length_reverse]; exact this
            have hlr : few.reverse.length = few.length := List.length_reverse
            rw [← hlr]
            exact new_ok few.reverse ns a9 an few.reverse.length cap9 m capn W hr9' (own_cap ho9) (fun r hr => hflr r (by simpa using hr)) HNM.out ((HRN.out.later hbel).later hW) HMC.out (by simp; omega) (by omega) hcls (fun r hr => (hba.2 r hr).1) hba.1 (fun r hr => (hba.2 r hr).2)
          have HR8 : Hid (RdR wr a8 few.length few) := hr8
          have HFR : Hid (RgS few) := hflr
          have HBR : Hid (Below w3.heap.size w3 wr) := hbel
          obtain ⟨nf, hnf⟩ : ∃ nf, nf = few.length := ⟨_, rfl⟩
          have HNF : Hid (nf = few.length) := hnf
          have hnf40 : (nf : Int) ≤ 40 := by omega
          rw [← hnf] at HNEW1 HNEW2 HR8 ⊢
          clear hLt hfew hfa hba hflr hfl hr8 hr9 ho8 ho9 hlt8 hB0 hbel hcls hnf
          go_wp2_with fail
          refine HNEW1.out.mono ?_
          rintro e w4 ⟨hb4, t, ss, rfl, ht, htl⟩
          have HB4 : Hid (Below wr.heap.size wr w4) := hb4
          have HT4 : Hid (TblAt w4 t ss) := ht
          have HTL : Hid (Tells ss few ns) := htl
          clear hb4 ht htl
          go_wp2_with fail
          refine (HNEW2.out w4 HB4.out).mono ?_
          rintro e w5 ⟨hb5, t2, ss2, rfl, ht2, htl2⟩
          have HB5 : Hid (Below wr.heap.size wr w5) := HB4.out.trans (hb5.mono HB4.out.size)
          have HT5 : Hid (TblAt w5 t ss) := HT4.out.later hb5
          have HU5 : Hid (TblAt w5 t2 ss2) := ht2
          have HTL2 : Hid (Tells ss2 few.reverse ns) := htl2
          have HR5 : Hid (RdR w5 a8 nf few) := HR8.out.later HB5.out
          have HBF : Hid (Below w.heap.size w w5) := HBW3.out.trans ((HBR.out.trans (HB5.out.mono HBR.out.size)).mono HBW3.out.size)
          have HF5 : Hid (∀ s : List Int, (∀ y ∈ s, 0 ≤ y ∧ y ≤ 255) → Calls Tryz.prog 23 #[.slice an m capn, .string (strOfNums s)] w5 fun e w' => e = .returned (.int .i64 (ixOf s ns)) ∧ w' = w5) := fun s hs => HFIND.out w5 s hs (HBR.out.trans (HB5.out.mono HBR.out.size))
          clear hb5 ht2 htl2
          go_wp2
          go_loop [15, 16] (fun x15 x16 => ∃ k : Nat, k ≤ nf ∧ x16 = .int .i64 k ∧ x15 = .int .i64 ((few.take k).foldl (wantS ns c) 0)) (fun _ x16 => nf - (intOf x16).toNat)
          case atStart => exact ⟨0, by omega, rfl, rfl⟩
          case round =>
            obtain ⟨k, hk, hx16, hx15⟩ := hrel
            subst hx16 hx15
            obtain ⟨wv, hwv⟩ : ∃ wv, wv = (few.take k).foldl (wantS ns c) 0 := ⟨_, rfl⟩
            rw [← hwv]
            have HWV : Hid (wv = (few.take k).foldl (wantS ns c) 0) := hwv
            clear hwv
            by_cases hlt : k < nf
            · have hkl : k < few.length := by rw [← HNF.out]; exact hlt
              obtain ⟨b, off, hab, c0, c1, c2⟩ := HR5.out.at k hlt
              subst hab
              obtain ⟨x, hx⟩ : ∃ x, x = few.getD k (0, 0, []) := ⟨_, rfl⟩
              rw [← hx] at c0 c1 c2
              have hxm : x ∈ few := by rw [hx]; simp [hkl]
              have HST : Hid ((few.take (k + 1)).foldl (wantS ns c) 0 = wantS ns c wv x) := by show _ = _; rw [hx, HWV.out]; exact want_step ns c few k hkl
              have hR := HFR.out x hxm
              obtain ⟨x1, x2, x3⟩ := x
              simp only [] at c0 c1 c2 hR
              obtain ⟨sx, hsx⟩ : ∃ sx, sx = strOfNums x3 := ⟨_, rfl⟩
              rw [← hsx] at c2
              obtain ⟨ix, hix⟩ : ∃ ix, ix = ixOf x3 ns := ⟨_, rfl⟩
              have HFD : Hid (Calls Tryz.prog 23 #[.slice an m capn, .string sx] w5 fun e w' => e = .returned (.int .i64 ix) ∧ w' = w5) := by rw [hsx, hix]; exact HF5.out x3 hR
              have HIN : Hid (x1 ≤ c → c ≤ x2 → (few.take (k + 1)).foldl (wantS ns c) 0 = ix) := by intro h1 h2; rw [HST.out, hix]; unfold wantS; exact if_pos ⟨h1, h2⟩
              have HOUT : Hid (¬ (x1 ≤ c ∧ c ≤ x2) → (few.take (k + 1)).foldl (wantS ns c) 0 = wv) := by intro h; rw [HST.out]; unfold wantS; exact if_neg h
              clear hx hxm hkl hR hsx hix
              by_cases h1 : x1 ≤ c
              · by_cases h2 : c ≤ x2
                · have HN : Hid ((few.take (k + 1)).foldl (wantS ns c) 0 = ix) := HIN.out h1 h2
                  go_wp2_with (first | (go_at_call 23; refine HFD.out.mono ?_; rintro e w' ⟨rfl, hw'⟩; obtain rfl : w5 = w' := hw'.symm))
                  go_round
                  case rel => exact ⟨k + 1, by omega, by go_num, by rw [HN.out]⟩
                  case measure => simp [intOf]; omega
                · have HN : Hid ((few.take (k + 1)).foldl (wantS ns c) 0 = wv) := HOUT.out (fun h => h2 h.2)
                  go_wp2
                  go_round
                  case rel => exact ⟨k + 1, by omega, by go_num, by rw [HN.out]⟩
                  case measure => simp [intOf]; omega
              · have HN : Hid ((few.take (k + 1)).foldl (wantS ns c) 0 = wv) := HOUT.out (fun h => h1 h.1)
                go_wp2
                go_round
                case rel => exact ⟨k + 1, by omega, by go_num, by rw [HN.out]⟩
                case measure => simp [intOf]; omega
            · obtain rfl : nf = k := by omega
              have hall : few.take nf = few := List.take_of_length_le (by rw [HNF.out]; exact Nat.le_refl _)
              have HC1 : Hid (clsP ss c = wv) := by show _ = _; rw [HWV.out, hall]; exact want_tells ss few few ns c (fun r => Iff.rfl) HTL.out
              have HC2 : Hid (clsP ss2 c = wv) := by show _ = _; rw [HWV.out, hall]; exact want_tells ss2 few few.reverse ns c (fun r => by simp) HTL2.out
              clear hall
              go_wp2_with fail
              refine (class_any t ss c w5 HTL.out.1 HT5.out (by rw [HTL.out.2.1, ← HNF.out]; omega)).mono ?_
              rw [HC1.out]
              rintro e w6 ⟨rfl, hb6⟩
              have HB6 : Hid (Below w.heap.size w w6) := HBF.out.trans (hb6.mono HBF.out.size)
              have HU6 : Hid (TblAt w6 t2 ss2) := HU5.out.later hb6
              clear hb6
              go_wp2_with fail
              refine (class_any t2 ss2 c w6 HTL2.out.1 HU6.out (by rw [HTL2.out.2.1, List.length_reverse, ← HNF.out]; omega)).mono ?_
              rw [HC2.out]
              rintro e w7 ⟨rfl, hb7⟩
              have HB7 : Hid (Below w.heap.size w w7) := HB6.out.trans (hb7.mono HB6.out.size)
              clear hb7
              go_wp2
              go_ret
              exact ⟨rfl, HB7.out⟩
end Go.Proofs.YtchdklbekfdgdaaGreatDoor
