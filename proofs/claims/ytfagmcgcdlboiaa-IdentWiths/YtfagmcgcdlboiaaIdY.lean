/- What serves the statements of vectors: rows that are held through the calls, the functions' contracts over them. -/
import Derived.Test.YtfagmcgcdlboiaaIdX
import Derived.Test.YtfagmcgcdlboiaaIdS
namespace Go.Proofs.Ytfagmcgcdlboiaa
open Go.RowKit Go.Sort
set_option linter.unusedVariables false

/-- A value that is a row of entries in memory. -/
def HoldsE (W : World) (v : Value) (L : List (Int × Int)) : Prop :=
  ∃ ad cap, v = .slice ad L.length cap ∧ L.length ≤ cap ∧ cap ≤ 9223372036854775807 ∧ (ad = none → cap = 0) ∧ RdE W ad L.length L
theorem HoldsE.later {W W' : World} {v : Value} {L : List (Int × Int)} (h : HoldsE W v L) (hb : Below W.heap.size W W') : HoldsE W' v L := by
  obtain ⟨ad, cap, h1, h2, h3, h4, h5⟩ := h
  exact ⟨ad, cap, h1, h2, h3, h4, h5.later hb⟩
/-- Rows that are held, behind what came in. -/
def LiveE (w : World) (l : List (Value × List (Int × Int))) (W : World) : Prop := (∀ p ∈ l, HoldsE W p.1 p.2) ∧ Below w.heap.size w W
theorem LiveE.later {w W W' : World} {l : List (Value × List (Int × Int))} (h : LiveE w l W) (hb : Below W.heap.size W W') : LiveE w l W' := ⟨fun p hp => (h.1 p hp).later hb, h.2.trans (hb.mono h.2.size)⟩
theorem LiveE.get {w W : World} {l : List (Value × List (Int × Int))} (h : LiveE w l W) (v : Value) (L : List (Int × Int)) (hm : (v, L) ∈ l) : HoldsE W v L := h.1 (v, L) hm
theorem LiveE.bel {w W : World} {l : List (Value × List (Int × Int))} (h : LiveE w l W) : Below w.heap.size w W := h.2
theorem LiveE.push {w W W' : World} {l : List (Value × List (Int × Int))} {v : Value} {L : List (Int × Int)} (h : LiveE w l W) (hb : Below W.heap.size W W') (hv : HoldsE W' v L) : LiveE w ((v, L) :: l) W' := by
  refine ⟨fun p hp => ?_, (h.later hb).2⟩
  rcases List.mem_cons.1 hp with rfl | hp
  · exact hv
  · exact (h.later hb).1 p hp
/-- A call that answers a row. -/
def AnsE (L : List (Int × Int)) (W : World) (e : Ending) (w' : World) : Prop := ∃ r, e = .returned r ∧ HoldsE w' r L ∧ Below W.heap.size W w'
theorem ansE {L : List (Int × Int)} {W w' : World} {e : Ending} (h : RowP L W e w') : AnsE L W e w' := by
  obtain ⟨v, rfl, ho, hb⟩ := h
  obtain ⟨ad, cap, rfl, h1, h2, h3, h4⟩ := rdE_own ho
  exact ⟨_, rfl, ⟨ad, cap, rfl, h1, h2, h4, h3⟩, hb⟩
/-- A call that answers a value, and changes nothing. -/
def AnsV (v : Value) (W : World) (e : Ending) (w' : World) : Prop := e = .returned v ∧ Below W.heap.size W w'
theorem c_vec (l : List (Int × Int)) (a : Option Addr) (len cap : Nat) (w : World) (ra : RdE w a len l) (W : World) (hb : Below w.heap.size w W) : Calls Try.prog 19 #[.slice a len cap] W (AnsE (vecL l) W) :=
  (vec_any l a len cap W (ra.later hb)).mono fun _ _ h => ansE h
theorem c_join (A B : List (Int × Int)) (hA : Vec A) (hB : Vec B) (hl : A.length + B.length ≤ 2000) (W : World) (u v : Value) (hu : HoldsE W u A) (hv : HoldsE W v B) : Calls Try.prog 23 #[u, v] W (AnsE (joinL A B) W) := by
  obtain ⟨a, ca, rfl, h1, h2, h3, h4⟩ := hu
  obtain ⟨b, cb, rfl, k1, k2, k3, k4⟩ := hv
  exact (join_any A B a b _ ca _ cb W hA hB h4 k4 h3 k3 h1 h2 k1 k2 hl).mono fun _ _ h => ansE h
theorem c_refJoin (A B : List (Int × Int)) (hA : Vec A) (hl : A.length ≤ 400) (hl2 : B.length ≤ 400) (W : World) (u v : Value) (hu : HoldsE W u A) (hv : HoldsE W v B) : Calls Try.prog 24 #[u, v] W (AnsE (joinL A B) W) := by
  obtain ⟨a, ca, rfl, h1, h2, h3, h4⟩ := hu
  obtain ⟨b, cb, rfl, k1, k2, k3, k4⟩ := hv
  exact (refJoin_any A B a b _ ca _ cb W hA h4 k4 h3 hl hl2).mono fun _ _ h => ansE h
theorem c_with (A : List (Int × Int)) (q s : Int) (hA : Vec A) (hl : A.length ≤ 1000) (W : World) (u : Value) (hu : HoldsE W u A) : Calls Try.prog 21 #[u, .int .i64 q, .int .i64 s] W (AnsE (withL A q s) W) := by
  obtain ⟨a, ca, rfl, h1, h2, h3, h4⟩ := hu
  exact (with_any A q s a _ ca W hA h4 h3 (by omega)).mono fun _ _ h => ansE h
theorem c_refWith (A : List (Int × Int)) (q s : Int) (hA : Vec A) (hl : A.length ≤ 1000) (W : World) (u : Value) (hu : HoldsE W u A) : Calls Try.prog 22 #[u, .int .i64 q, .int .i64 s] W (AnsE (withL A q s) W) := by
  obtain ⟨a, ca, rfl, h1, h2, h3, h4⟩ := hu
  exact (refWith_any A q s a _ ca W hA.1 h4 h3 hl).mono fun _ _ h => ansE h
theorem c_same (A B : List (Int × Int)) (z : Bool) (hz : z = decide (A = B)) (hl : A.length ≤ 1000) (W : World) (u v : Value) (hu : HoldsE W u A) (hv : HoldsE W v B) : Calls Try.prog 20 #[u, v] W (AnsV (.bool z) W) := by
  obtain ⟨a, ca, rfl, h1, h2, h3, h4⟩ := hu
  obtain ⟨b, cb, rfl, k1, k2, k3, k4⟩ := hv
  rw [hz]
  exact (same_any A B a b _ ca _ cb W h4 k4 (by omega)).mono fun _ _ h => ⟨h.1, h.2.below⟩
theorem c_covers (A B : List (Int × Int)) (z : Bool) (hz : z = covL A B) (hA : Vec A) (hl : A.length ≤ 1000) (hl2 : B.length ≤ 1000) (W : World) (u v : Value) (hu : HoldsE W u A) (hv : HoldsE W v B) : Calls Try.prog 27 #[u, v] W (AnsV (.bool z) W) := by
  obtain ⟨a, ca, rfl, h1, h2, h3, h4⟩ := hu
  obtain ⟨b, cb, rfl, k1, k2, k3, k4⟩ := hv
  rw [hz]
  exact (covers_any A B a b _ ca _ cb W hA.1 h4 k4 (by omega) (by omega)).mono fun _ _ h => ⟨h.1, h.2.below⟩
theorem rng_sq (A : List (Int × Int)) (hP : RngE A) (c : Int) : 0 ≤ sqL A c ∧ sqL A c ≤ 8589934592 := by
  induction A with
  | nil => show (0 : Int) ≤ 0 ∧ (0 : Int) ≤ 8589934592; omega
  | cons x r ih =>
    rw [sqL]
    split
    · have := hP x (by simp); omega
    · exact ih fun y hy => hP y (by simp [hy])
theorem rng_join (A B : List (Int × Int)) (hA : RngE A) (hB : RngE B) : RngE (joinL A B) := fun x hx => by
  rcases join_mem A B x hx with h | h
  · exact hA x h
  · exact hB x h
theorem c_gap (A B : List (Int × Int)) (z : Int) (hz : z = gapL A B) (hA : Vec A) (rA : RngE A) (rB : RngE B) (hl : A.length ≤ 1000) (hl2 : B.length ≤ 1000) (W : World) (u v : Value) (hu : HoldsE W u A) (hv : HoldsE W v B) : Calls Try.prog 26 #[u, v] W (AnsV (.int .i64 z) W) := by
  obtain ⟨a, ca, rfl, h1, h2, h3, h4⟩ := hu
  obtain ⟨b, cb, rfl, k1, k2, k3, k4⟩ := hv
  rw [hz]
  exact (gap_any A B a b _ ca _ cb W hA.1 h4 k4 (by omega) hl2 (fun x hx => by have := rB x hx; omega) (rng_sq A rA)).mono fun _ _ h => ⟨h.1, h.2.below⟩
theorem c_refGap (A B : List (Int × Int)) (z : Int) (hz : z = gapL A B) (rA : RngE A) (rB : RngE B) (hl : A.length ≤ 1000) (hl2 : B.length ≤ 1000) (W : World) (u v : Value) (hu : HoldsE W u A) (hv : HoldsE W v B) : Calls Try.prog 25 #[u, v] W (AnsV (.int .i64 z) W) := by
  obtain ⟨a, ca, rfl, h1, h2, h3, h4⟩ := hu
  obtain ⟨b, cb, rfl, k1, k2, k3, k4⟩ := hv
  rw [hz]
  exact (refGap_any A B a b _ ca _ cb W h4 k4 (by omega) hl2 (fun x hx => by have := rB x hx; omega) (rng_sq A rA)).mono fun _ _ h => ⟨h.1, by rw [h.2]; exact Below.refl _ _⟩
theorem c_vector (A : List (Int × Int)) (z : Bool) (hz : z = vcB (-1) A) (hl : A.length ≤ 1000) (W : World) (u : Value) (hu : HoldsE W u A) : Calls Try.prog 30 #[u] W (AnsV (.bool z) W) := by
  obtain ⟨a, ca, rfl, h1, h2, h3, h4⟩ := hu
  rw [hz]
  exact (vector_any A a _ ca W h4 (by omega)).mono fun _ _ h => ⟨h.1, h.2.below⟩
theorem c_refVector (A : List (Int × Int)) (z : Bool) (hz : z = vcB (-1) A) (hl : A.length ≤ 1000) (W : World) (u : Value) (hu : HoldsE W u A) : Calls Try.prog 31 #[u] W (AnsV (.bool z) W) := by
  obtain ⟨a, ca, rfl, h1, h2, h3, h4⟩ := hu
  rw [hz]
  exact (refVector_any A a _ ca W h4 (by omega)).mono fun _ _ h => ⟨h.1, h.2.below⟩
theorem c_seq (A : List (Int × Int)) (q z : Int) (hz : z = sqL A q) (hA : Vec A) (hl : A.length ≤ 1000) (W : World) (u : Value) (hu : HoldsE W u A) : Calls Try.prog 28 #[u, .int .i64 q] W (AnsV (.int .i64 z) W) := by
  obtain ⟨a, ca, rfl, h1, h2, h3, h4⟩ := hu
  rw [hz]
  exact (seq_any A q a _ ca W hA.1 h4 (by omega)).mono fun _ _ h => ⟨h.1, Gw.below h.2⟩
theorem c_refSeq (A : List (Int × Int)) (q z : Int) (hz : z = sqL A q) (hl : A.length ≤ 1000) (W : World) (u : Value) (hu : HoldsE W u A) : Calls Try.prog 29 #[u, .int .i64 q] W (AnsV (.int .i64 z) W) := by
  obtain ⟨a, ca, rfl, h1, h2, h3, h4⟩ := hu
  rw [hz]
  exact (refSeq_any A q a _ ca W h4 (by omega)).mono fun _ _ h => ⟨h.1, by rw [h.2]; exact Below.refl _ _⟩
theorem vc_rng (A : List (Int × Int)) (hA : Vec A) (hR : RngE A) : vcB (-1) A = true := by
  refine vc_true A (-1) hA.1 fun x hx => ?_
  have := hR x hx
  refine ⟨by omega, (belB_iff _ _).2 this.1, (cnB_iff _).2 (by omega)⟩
theorem c_shown (w W : World) (hb : Below w.heap.size w W) : Calls Try.prog 10 #[] W (AnsV (.bool true) W) := (shown_any W).mono fun _ _ h => h
end Go.Proofs.Ytfagmcgcdlboiaa
