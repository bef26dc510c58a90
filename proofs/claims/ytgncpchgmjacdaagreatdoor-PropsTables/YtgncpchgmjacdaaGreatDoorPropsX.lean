/- What New makes of ranges that do not meet: a table that tells each character's class. -/
import Derived.Test.YtgncpchgmjacdaaGreatDoorPropsV
namespace Go.Proofs.YtgncpchgmjacdaaGreatDoor
open Go.RowKit
set_option linter.unusedVariables false

/-- They have no character together. -/
def ApR (x y : Rg) : Prop := meets x y = false
theorem apR_symm {x y : Rg} (h : ApR x y) : ApR y x := by unfold ApR at *; rw [meets_comm]; exact h
theorem sd_meets (x y : Rg) (hx : x.1 ≤ x.2.1) (hy : y.1 ≤ y.2.1) : (sdR x y = 0) ↔ meets x y = true := by
  unfold sdR meets
  by_cases h1 : x.2.1 < y.1
  · rw [if_pos h1]; simp; omega
  · rw [if_neg h1]
    by_cases h2 : y.2.1 < x.1
    · rw [if_pos h2]; simp; omega
    · rw [if_neg h2]; simp; omega
theorem at_mem (ds : List Rg) (i : Nat) (hi : i < ds.length) : ds.getD i (0, 0, []) ∈ ds := by simp [hi]
theorem pair_at (ds : List Rg) (R : Rg → Rg → Prop) (h : ds.Pairwise R) (i j : Nat) (hij : i < j) (hj : j < ds.length) : R (ds.getD i (0, 0, [])) (ds.getD j (0, 0, [])) := by
  have := (List.pairwise_iff_getElem.1 h) i j (by omega) hj hij
  simpa [show i < ds.length by omega, hj] using this
/-- In order, and no neighbours meet: none meet. -/
theorem srt_lt (ds : List Rg) (hr : ∀ r ∈ ds, r.1 ≤ r.2.1) (hs : Srt ds) (hm : MtOf ds false) : ∀ i j, i < j → j < ds.length → (ds.getD i (0, 0, [])).2.1 < (ds.getD j (0, 0, [])).1 := by
  intro i j hij hj
  have h1 : (ds.getD i (0, 0, [])).2.1 < (ds.getD (i + 1) (0, 0, [])).1 := by
    have hne := hm.2 rfl i (by omega)
    have hx := hr _ (at_mem ds i (by omega))
    have hy := hr _ (at_mem ds (i + 1) (by omega))
    have hle := hs i (i + 1) (by omega) (by omega)
    unfold sdR at hne
    by_cases h : (ds.getD i (0, 0, [])).2.1 < (ds.getD (i + 1) (0, 0, [])).1
    · exact h
    · rw [if_neg h, if_neg (by omega)] at hne
      exact absurd rfl hne
  rcases Nat.lt_or_ge (i + 1) j with h | h
  · have := hs (i + 1) j h hj
    omega
  · rw [show j = i + 1 by omega]; exact h1
theorem srt_apart (ds : List Rg) (hr : ∀ r ∈ ds, r.1 ≤ r.2.1) (hs : Srt ds) (hm : MtOf ds false) : ds.Pairwise ApR := by
  rw [List.pairwise_iff_getElem]
  intro i j hi hj hij
  have := srt_lt ds hr hs hm i j hij hj
  have e1 : ds.getD i (0, 0, []) = ds[i] := by simp [hi]
  have e2 : ds.getD j (0, 0, []) = ds[j] := by simp [hj]
  rw [e1, e2] at this
  unfold ApR meets
  rw [Bool.and_eq_false_iff]
  right
  exact decide_eq_false (by omega)
theorem apart_mt (ds : List Rg) (hr : ∀ r ∈ ds, r.1 ≤ r.2.1) (h : ds.Pairwise ApR) : ¬ MtOf ds true := by
  intro hm
  obtain ⟨i, hi, h0⟩ := hm.1 rfl
  have h1 := pair_at ds ApR h i (i + 1) (by omega) hi
  have h2 := (sd_meets _ _ (hr _ (at_mem ds i (by omega))) (hr _ (at_mem ds (i + 1) hi))).1 h0
  unfold ApR at h1
  rw [h1] at h2
  cases h2
theorem getD_map (ds : List Rg) (ns : List (List Int)) (i : Nat) (hi : i < ds.length) : (ds.map (spOf ns)).getD i (0, 0, 0) = spOf ns (ds.getD i (0, 0, [])) := by simp [hi]
theorem ascS_of (ds : List Rg) (ns : List (List Int)) (hr : ∀ r ∈ ds, r.1 ≤ r.2.1) (hs : Srt ds) (hm : MtOf ds false) : AscS (ds.map (spOf ns)) := by
  refine ⟨fun i hi => ?_, fun i j hij hj => ?_⟩
  · simp at hi
    rw [getD_map ds ns i hi]
    exact hr _ (at_mem ds i hi)
  · simp at hj
    rw [getD_map ds ns i (by omega), getD_map ds ns j hj]
    exact srt_lt ds hr hs hm i j hij hj
theorem cls_in (ss : List Sp) (c : Int) (ha : AscS ss) (i : Nat) (hi : i < ss.length) (h1 : (ss.getD i (0, 0, 0)).1 ≤ c) (h2 : c ≤ (ss.getD i (0, 0, 0)).2.1) : clsP ss c = (ss.getD i (0, 0, 0)).2.2 := by
  unfold clsP
  rw [find_at _ ss i hi (in_T _ c h1 h2) (fun k hk => in_F _ c (.inl (by have := ha.2 k i hk hi; omega)))]
theorem cls_out (ss : List Sp) (c : Int) (h : ∀ k, k < ss.length → ¬ ((ss.getD k (0, 0, 0)).1 ≤ c ∧ c ≤ (ss.getD k (0, 0, 0)).2.1)) : clsP ss c = 0 := by
  unfold clsP
  rw [find_no]
  intro k hk
  exact in_F _ c (by have := h k hk; omega)
theorem mem_at (ds : List Rg) (r : Rg) (h : r ∈ ds) : ∃ i, i < ds.length ∧ ds.getD i (0, 0, []) = r := by
  obtain ⟨i, hi, e⟩ := List.mem_iff_getElem.1 h
  exact ⟨i, hi, by simp [hi, e]⟩
/-- A table tells each character's class by these ranges. -/
def Tells (ss : List Sp) (rs : List Rg) (ns : List (List Int)) : Prop :=
  AscS ss ∧ ss.length = rs.length ∧ ∀ c, (∀ r ∈ rs, r.1 ≤ c → c ≤ r.2.1 → clsP ss c = ixOf r.2.2 ns) ∧ ((∀ r ∈ rs, ¬ (r.1 ≤ c ∧ c ≤ r.2.1)) → clsP ss c = 0)
theorem tells_of (ds rs : List Rg) (ns : List (List Int)) (hp : ds.Perm rs) (hr : ∀ r ∈ ds, r.1 ≤ r.2.1) (hs : Srt ds) (hm : MtOf ds false) : Tells (ds.map (spOf ns)) rs ns := by
  have ha := ascS_of ds ns hr hs hm
  refine ⟨ha, by rw [List.length_map]; exact hp.length_eq, fun c => ⟨fun r hrr h1 h2 => ?_, fun h => ?_⟩⟩
  · obtain ⟨i, hi, e⟩ := mem_at ds r (hp.mem_iff.2 hrr)
    have hg := getD_map ds ns i hi
    rw [e] at hg
    have := cls_in (ds.map (spOf ns)) c ha i (by simpa using hi) (by rw [hg]; exact h1) (by rw [hg]; exact h2)
    rw [this, hg]
    rfl
  · apply cls_out
    intro k hk
    simp at hk
    rw [getD_map ds ns k hk]
    exact h _ (hp.mem_iff.1 (at_mem ds k hk))
/-- What New leaves where all is right. -/
def NewOk (rs : List Rg) (ns : List (List Int)) (w : World) (e : Ending) (w' : World) : Prop :=
  Below w.heap.size w w' ∧ ∃ t ss, e = .returned (.tuple #[.pointer (some ⟨t, 0, none⟩), .int .i64 0]) ∧ TblAt w' t ss ∧ Tells ss rs ns
theorem new_ok (rs : List Rg) (ns : List (List Int)) (a a2 : Option Addr) (len cap len2 cap2 : Nat) (w : World) (hrd : RdR w a len rs) (hnone : a = none → cap = 0) (hrs : RgS rs) (hn : Nms ns) (hrd2 : RdS w a2 len2 ns) (hc2 : len2 ≤ cap2) (hm : len ≤ 100000000) (hm2 : len2 ≤ 9223372036854775807)
    (h1 : clsOk ns = true) (h2 : ∀ r ∈ rs, reR r = true) (h3 : rs.Pairwise ApR) (h4 : ∀ r ∈ rs, r.2.2 ∈ ns) :
    Calls Tryz.prog 21 #[.slice a len cap, .slice a2 len2 cap2] w (NewOk rs ns w) := by
  refine (new_any rs ns a a2 len cap len2 cap2 w hrd hnone hrs hn hrd2 hc2 hm hm2).mono ?_
  rintro e w' ⟨hb, h⟩
  refine ⟨hb, ?_⟩
  rcases h with ⟨h, _⟩ | ⟨_, ⟨r, hr, h⟩, _⟩ | ⟨_, _, ds, hp, hs, h⟩
  · rw [h1] at h; cases h
  · rw [h2 r hr] at h; cases h
  · have hr : ∀ r ∈ ds, r.1 ≤ r.2.1 := fun r hr => reR_le r (h2 r (hp.mem_iff.1 hr))
    have hap : ds.Pairwise ApR := (hp.pairwise_iff (fun h => apR_symm h)).2 h3
    rcases h with ⟨hm, _⟩ | ⟨_, ⟨r, hr', h⟩, _⟩ | ⟨hm, _, t, he, ht⟩
    · exact absurd hm (apart_mt ds hr hap)
    · exact absurd (h4 r (hp.mem_iff.1 hr')) h
    · exact ⟨t, _, he, ht, tells_of ds rs ns hp hr hs hm⟩
end Go.Proofs.YtgncpchgmjacdaaGreatDoor
