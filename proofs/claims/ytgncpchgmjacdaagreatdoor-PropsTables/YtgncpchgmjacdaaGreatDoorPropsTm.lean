/- The mathematics of PropsTables: what New leaves and what the reference answers are the same. -/
import Derived.Test.YtgncpchgmjacdaaGreatDoorPropsRg
import Derived.Test.YtgncpchgmjacdaaGreatDoorPropsRh
namespace Go.Proofs.YtgncpchgmjacdaaGreatDoor
open Go.RowKit
set_option linter.unusedVariables false

/-- A table of these ranges tells what the reference answers. -/
theorem clsF_tells (ss : List Sp) (rs : List Rg) (ns : List (List Int)) (c : Int) (h : Tells ss rs ns) : clsF rs ns c = clsP ss c := by
  unfold clsF
  cases hf : rs.find? (inR c) with
  | none =>
    refine ((h.2.2 c).2 fun r hr hc => ?_).symm
    have := List.find?_eq_none.1 hf r hr
    unfold inR at this
    rw [decide_eq_true hc.1, decide_eq_true hc.2] at this
    exact this rfl
  | some r =>
    have h1 := List.find?_some hf
    have h2 := List.mem_of_find?_eq_some hf
    unfold inR at h1
    simp only [Bool.and_eq_true, decide_eq_true_eq] at h1
    exact ((h.2.2 c).1 r h2 h1.1 h1.2).symm
/-- What New leaves, by the reference's number. -/
def NewR (rs : List Rg) (ns : List (List Int)) (R : Int) (w : World) (e : Ending) (w' : World) : Prop :=
  Below w.heap.size w w' ∧ ((R ≠ 0 ∧ e = .returned (.tuple #[.pointer none, .int .i64 R])) ∨ (R = 0 ∧ ∃ t ss, e = .returned (.tuple #[.pointer (some ⟨t, 0, none⟩), .int .i64 0]) ∧ TblAt w' t ss ∧ Tells ss rs ns))
theorem new_right (rs : List Rg) (ns : List (List Int)) (R : Int) (w w' : World) (e : Ending) (h : NewPost rs ns w e w') (hr : RtOf rs ns R) : NewR rs ns R w e w' := by
  obtain ⟨hb, h⟩ := h
  refine ⟨hb, ?_⟩
  rcases hr with ⟨r1, rfl⟩ | ⟨r1, ⟨r, hr, r2⟩, rfl⟩ | ⟨r1, r2, hr⟩
  · rcases h with ⟨_, he⟩ | ⟨h, _⟩ | ⟨h, _⟩
    · exact .inl ⟨by decide, he⟩
    · rw [r1] at h; cases h
    · rw [r1] at h; cases h
  · rcases h with ⟨h, _⟩ | ⟨_, _, he⟩ | ⟨_, h, _⟩
    · rw [r1] at h; cases h
    · exact .inl ⟨by decide, he⟩
    · rw [h r hr] at r2; cases r2
  · rcases h with ⟨h, _⟩ | ⟨_, ⟨r, hr', h⟩, _⟩ | ⟨_, _, ds, hp, hs, h⟩
    · rw [r1] at h; cases h
    · rw [r2 r hr'] at h; cases h
    · have hle : ∀ r ∈ ds, r.1 ≤ r.2.1 := fun r hr => reR_le r (r2 r (hp.mem_iff.1 hr))
      have hpi : ds.Pairwise ApR ↔ rs.Pairwise ApR := hp.pairwise_iff (fun h => apR_symm h)
      rcases hr with ⟨p1, rfl⟩ | ⟨p1, ⟨r, hr, p2⟩, rfl⟩ | ⟨p1, p2, rfl⟩
      · rcases h with ⟨_, he⟩ | ⟨hm, _⟩ | ⟨hm, _⟩
        · exact .inl ⟨by decide, he⟩
        · exact absurd (hpi.1 (srt_apart ds hle hs hm)) p1
        · exact absurd (hpi.1 (srt_apart ds hle hs hm)) p1
      · rcases h with ⟨hm, _⟩ | ⟨_, _, he⟩ | ⟨_, h, _⟩
        · exact absurd hm (apart_mt ds hle (hpi.2 p1))
        · exact .inl ⟨by decide, he⟩
        · exact absurd (h r (hp.mem_iff.2 hr)) p2
      · rcases h with ⟨hm, _⟩ | ⟨_, ⟨r, hr, h⟩, _⟩ | ⟨hm, _, t, he, ht⟩
        · exact absurd hm (apart_mt ds hle (hpi.2 p1))
        · exact absurd (p2 r (hp.mem_iff.1 hr)) h
        · exact .inr ⟨rfl, t, _, he, ht, tells_of ds rs ns hp hle hs hm⟩
end Go.Proofs.YtgncpchgmjacdaaGreatDoor
