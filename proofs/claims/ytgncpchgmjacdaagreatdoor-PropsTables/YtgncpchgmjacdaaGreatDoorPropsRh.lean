/- The walk of the reference's Class. -/
import Derived.Test.YtgncpchgmjacdaaGreatDoorPropsRf
import Derived.Test.YtgncpchgmjacdaaGreatDoorPropsX
namespace Go.Proofs.YtgncpchgmjacdaaGreatDoor
open Go.RowKit
set_option linter.unusedVariables false

/-- Is the character in the range? -/
def inR (c : Int) (r : Rg) : Bool := decide (r.1 ≤ c) && decide (c ≤ r.2.1)
/-- The reference's answer. -/
def clsF (rs : List Rg) (ns : List (List Int)) (c : Int) : Int := match rs.find? (inR c) with
  | some r => ixOf r.2.2 ns
  | none => 0
theorem clsF_at (rs : List Rg) (ns : List (List Int)) (c : Int) (k : Nat) (hk : k < rs.length) (h : inR c (rs.getD k (0, 0, [])) = true) (hn : ∀ j, j < k → inR c (rs.getD j (0, 0, [])) = false) : clsF rs ns c = ixOf (rs.getD k (0, 0, [])).2.2 ns := by
  have key : ∀ (rs : List Rg) (k : Nat), k < rs.length → inR c (rs.getD k (0, 0, [])) = true → (∀ j, j < k → inR c (rs.getD j (0, 0, [])) = false) → rs.find? (inR c) = some (rs.getD k (0, 0, [])) := by
    intro rs
    induction rs with
    | nil => intro k h; simp at h
    | cons x r ih =>
      intro k hk h hn
      cases k with
      | zero => simp at h; simp [h]
      | succ k =>
        have h0 := hn 0 (by omega)
        simp at h0
        rw [List.find?_cons, h0]
        simpa using ih k (by simpa using hk) (by simpa using h) (fun j hj => by simpa using hn (j + 1) (by omega))
  unfold clsF
  rw [key rs k hk h hn]
theorem clsF_no (rs : List Rg) (ns : List (List Int)) (c : Int) (h : ∀ j, j < rs.length → inR c (rs.getD j (0, 0, [])) = false) : clsF rs ns c = 0 := by
  unfold clsF
  have : rs.find? (inR c) = none := by
    rw [List.find?_eq_none]
    intro x hx
    obtain ⟨k, hk, rfl⟩ := List.mem_iff_getElem.1 hx
    have := h k hk
    simp [hk] at this
    simp [this]
  rw [this]

set_option maxHeartbeats 1000000 in
theorem classR_any (rs : List Rg) (ns : List (List Int)) (a a2 : Option Addr) (len cap len2 cap2 : Nat) (c : Int) (w : World) (hrd : RdR w a len rs) (hrs : RgS rs) (hn : Nms ns) (hrd2 : RdS w a2 len2 ns) (hm : len ≤ 100000000) (hm2 : len2 ≤ 100000000) :
    Calls Tryz.prog 23 #[.slice a len cap, .slice a2 len2 cap2, .int .i32 c] w fun e w' => e = .returned (.int .i64 (clsF rs ns c)) ∧ w' = w := by
  have HD : Hid (RdR w a len rs) := hrd
  have HL : Hid (rs.length = len) := hrd.1
  have HRS : Hid (RgS rs) := hrs
  have HFIND : Hid (∀ s : List Int, (∀ y ∈ s, 0 ≤ y ∧ y ≤ 255) → Calls Tryz.prog 30 #[.slice a2 len2 cap2, .string (strOfNums s)] w fun e w' => e = .returned (.int .i64 (ixOf s ns)) ∧ w' = w) := fun s hs => find_any ns s a2 len2 cap2 w hn hs hrd2 (by omega)
  obtain ⟨R, hR⟩ : ∃ R, R = clsF rs ns c := ⟨_, rfl⟩
  rw [← hR]
  have HR : Hid (R = clsF rs ns c) := hR
  have hmm : (len : Int) ≤ 100000000 := by omega
  clear hrd hrs hn hrd2 hR hm hm2
  go_enter Tryz.func23, Tryz.ntmps23
  go_wp2
  go_loop [7] (fun x7 => ∃ k : Nat, k ≤ len ∧ x7 = .int .i64 k ∧ ∀ j, j < k → inR c (rs.getD j (0, 0, [])) = false) (fun x7 => len - (intOf x7).toNat)
  case atStart => exact ⟨0, by omega, rfl, fun j hj => absurd hj (by omega)⟩
  case round =>
    obtain ⟨k, hk, hx7, hat⟩ := hrel
    subst hx7
    have HA : Hid (∀ j, j < k → inR c (rs.getD j (0, 0, [])) = false) := hat
    clear hat
    by_cases hlt : k < len
    · obtain ⟨b, off, hab, c0, c1, c2⟩ := HD.out.at k hlt
      subst hab
      have hkl : k < rs.length := by rw [HL.out]; exact hlt
      obtain ⟨x, hx⟩ : ∃ x, x = rs.getD k (0, 0, []) := ⟨_, rfl⟩
      rw [← hx] at c0 c1 c2
      have hxm : x ∈ rs := by rw [hx]; simp [hkl]
      obtain ⟨x1, x2, x3⟩ := x
      simp only [] at c0 c1 c2
      obtain ⟨sx, hsx⟩ : ∃ sx, sx = strOfNums x3 := ⟨_, rfl⟩
      rw [← hsx] at c2
      have HIT : Hid (x1 ≤ c → c ≤ x2 → R = ixOf x3 ns) := by
        intro h1 h2
        rw [HR.out, clsF_at rs ns c k hkl (by rw [← hx]; unfold inR; rw [decide_eq_true h1, decide_eq_true h2]; rfl) HA.out, ← hx]
      have HNX : Hid (¬ (x1 ≤ c ∧ c ≤ x2) → ∀ j, j < k + 1 → inR c (rs.getD j (0, 0, [])) = false) := by
        intro h j hj
        rcases Nat.lt_or_ge j k with h2 | h2
        · exact HA.out j h2
        · rw [show j = k by omega, ← hx]
          unfold inR
          by_cases h3 : x1 ≤ c
          · rw [decide_eq_true h3, decide_eq_false (fun h4 => h ⟨h3, h4⟩)]; rfl
          · rw [decide_eq_false h3]; rfl
      have HFD : Hid (Calls Tryz.prog 30 #[.slice a2 len2 cap2, .string sx] w fun e w' => e = .returned (.int .i64 (ixOf x3 ns)) ∧ w' = w) := by rw [hsx]; exact HFIND.out x3 (HRS.out _ hxm)
      clear hx hxm hkl hsx
      by_cases h1 : x1 ≤ c
      · by_cases h2 : c ≤ x2
        · have hR := HIT.out h1 h2
          rw [← hR] at HFD
          clear hR
          go_wp2_with (first | (go_at_call 30; refine HFD.out.mono ?_; rintro e w' ⟨rfl, hw'⟩; obtain rfl : w = w' := hw'.symm))
          go_ret
          exact ⟨rfl, rfl⟩
        · have HN : Hid (∀ j, j < k + 1 → inR c (rs.getD j (0, 0, [])) = false) := HNX.out (fun h => h2 h.2)
          go_wp2
          go_round
          case rel => exact ⟨k + 1, by omega, by go_num, HN.out⟩
          case measure => simp [intOf]; omega
      · have HN : Hid (∀ j, j < k + 1 → inR c (rs.getD j (0, 0, [])) = false) := HNX.out (fun h => h1 h.1)
        go_wp2
        go_round
        case rel => exact ⟨k + 1, by omega, by go_num, HN.out⟩
        case measure => simp [intOf]; omega
    · have hR : R = 0 := HR.out.trans (clsF_no rs ns c (fun j hj => HA.out j (by rw [HL.out] at hj; omega)))
      subst hR
      go_wp2
      go_ret
      exact ⟨rfl, rfl⟩
end Go.Proofs.YtgncpchgmjacdaaGreatDoor
