/- The end of markedNode. -/
import Derived.Test.YtjbhfonokgkalaaReaGa
namespace Go.Proofs.Ytjbhfonokgkalaa
open Go.RowKit
set_option linter.unusedVariables false
set_option linter.unusedSimpArgs false

theorem seqHs_nil : (ks : List Dn) → ∀ h ∈ seqHs ks [], h = []
  | [], h, hh => by simp [seqHs] at hh
  | k :: r, h, hh => by
    simp only [seqHs, List.mem_cons] at hh
    rcases hh with rfl | hh
    · rfl
    · exact seqHs_nil r h hh
theorem hs_nil (n : Nd) (i : Nat) : (n.hs []).getD i [] = [] := by
  have : ∀ h ∈ n.hs [], h = [] := by
    intro h hh
    unfold Nd.hs at hh
    split at hh
    · exact seqHs_nil _ h hh
    · have := List.eq_of_mem_replicate hh
      rw [this]
      split <;> rfl
  rw [List.getD_eq_getElem?_getD]
  cases hc : (n.hs [])[i]? with
  | none => rfl
  | some h => exact this h (List.mem_of_getElem? hc)
theorem five_take {l : List Value} {m a : Nat} (h : a + 5 ≤ m) : ((l.take m).drop a).take 5 = (l.drop a).take 5 := by
  rw [List.drop_take, List.take_take, Nat.min_eq_left (by omega)]
theorem NdV.four {B : Nat} {w : World} : {d : Nat} → {n : Nd} → {h : Hist} → {x : Mk} → {fp : Nat → Prop} → NdV B w d n h x.vals fp → x.em = n.emp
  | 0, _, _, _, _, h => h.elim
  | d + 1, n, h, x, fp, hh => by
    obtain ⟨ca, cc, pa, pc, hv, _⟩ := hh
    simp only [Mk.vals, List.cons.injEq, Value.bool.injEq] at hv
    exact hv.2.2.2.1
theorem revL_map (t : Bool) (f : Nd → Nd) (l : List Nd) : revL t (l.map f) = (revL t l).map f := by unfold revL; split <;> simp
theorem revL_len (t : Bool) (l : List Nd) : (revL t l).length = l.length := by unfold revL; split <;> simp
/-- The parts of an expression that is marked. -/
theorem nrm_kids (t : Bool) (n : Nd) : toL (n.nrm t).kids = (revL t (if cnt n.op (toL n.kids).length = true then toL n.kids else [])).map (Nd.nrm t) := by
  unfold Nd.nrm
  rw [toL_ofL]
  split
  · rw [nrm_map, revL_map]; rfl
  · unfold revL; split <;> rfl
/-- The end: all parts stand in the order that is asked. -/
theorem mn_tail {B d : Nat} {t : Bool} {n : Nd} {ca pa : Option Addr} {cc pc : Nat} {op : Int} {cn K H R M k : Nat} {w wt : World} {av : Option Addr} {cv : Nat} {ys : List Mk} {ls : List Nd} {fq : Nat → Nat → Prop} (hR : R = H + 1) (hM : M = H + 2) (hH : H = w.heap.size) (hBH : B ≤ H) (hop : op = n.op) (hcn : cn = n.cl.length) (hK : K = (toL n.kids).length)
    (hin : InV B w (d + 1) n [.int .i64 n.op, .slice ca n.cl.length cc, .slice pa (toL n.kids).length pc]) (hls : ls = revL t (if cnt op K = true then toL n.kids else [])) (hlk : ls.length = k) (hyl : ys.length = k)
    (h3 : wt.ownsRow (H + 3) 82 5 (.slice av k cv) k (flatK ys)) (hb : Below H w wt) (hs : H + 3 ≤ wt.heap.size)
    (h7 : ∀ i (hi : i < ys.length) (hl : i < ls.length), (∀ y, fq i y → H + 3 ≤ y ∧ y < wt.heap.size ∧ (Value.slice av k cv).ownBlock ≠ some y) ∧ (∀ j, j < i → ∀ y, fq i y → ¬ fq j y) ∧ NdV B wt d (ls[i].nrm t) [] ys[i].vals (fq i)) :
    RdK wt av k (ys.map Mk.em) ∧ ∀ w2, Below wt.heap.size wt w2 → ∀ q, q = empF op (ys.map Mk.em) → MnPost B (d + 1) t n w (.returned (.tuple #[.agg #[.int .i64 op, .slice ca cn cc, .slice av k cv, .bool q, .bool false], .bool true])) (F5 (w2.setCell ⟨M, 3, none⟩ (.bool q)) R 0 ⟨op, ca, cn, cc, av, k, cv, q, false⟩) := by
  have hkids : toL (n.nrm t).kids = ls.map (Nd.nrm t) := by rw [nrm_kids, hls, hop, hK]
  have hem : ys.map Mk.em = (ls.map (Nd.nrm t)).map Nd.emp := by
    apply List.ext_getElem
    · simp; omega
    · intro i h1 h2
      simp only [List.getElem_map]
      exact (h7 i (by simpa using h1) (by simpa using h2)).2.2.four
  refine ⟨⟨by simpa using hyl, fun i hi => ?_⟩, fun w2 hb2 q hq => ?_⟩
  · have hi' : i < ys.length := by simpa using hi
    obtain ⟨g, rfl, _, cur, hg, _, _, hcel⟩ := own_cells5 h3 (by omega)
    obtain ⟨c0, c1, c2, c3, c4⟩ := hcel i hi'
    exact ⟨g, 0, _, _, _, _, _, _, _, _, rfl, by simpa using c0, by simpa using c1, by simpa using c2, by simpa using c3, by simpa using c4⟩
  · obtain ⟨ca', cc', pa', pc', hv, hrd, hcb, hcl, hkl, hkin⟩ := hin
    simp only [List.cons.injEq, Value.slice.injEq, and_true, true_and] at hv
    obtain ⟨⟨rfl, rfl⟩, rfl, rfl⟩ := hv
    have hb2s := hb2.size
    have hVs : (F5 (w2.setCell ⟨M, 3, none⟩ (.bool q)) R 0 ⟨op, ca, cn, cc, av, k, cv, q, false⟩).heap.size = w2.heap.size := by rw [f5_size]; simp [World.setCell]
    have hg5 := f5_grown (w2.setCell ⟨M, 3, none⟩ (.bool q)) R 0 ⟨op, ca, cn, cc, av, k, cv, q, false⟩
    have hsame : ∀ y, y < wt.heap.size → y ≠ R → y ≠ M → (F5 (w2.setCell ⟨M, 3, none⟩ (.bool q)) R 0 ⟨op, ca, cn, cc, av, k, cv, q, false⟩).heap[y]? = wt.heap[y]? := fun y h0 h1 h2 =>
      (hg5.block y (by simp [World.setCell]; omega) (fun e => h1 (by injection e))).trans ((Below.heap_setCell _ _ _ _ h2).trans (hb2.block y h0))
    have hbel : Below H w (F5 (w2.setCell ⟨M, 3, none⟩ (.bool q)) R 0 ⟨op, ca, cn, cc, av, k, cv, q, false⟩) := by
      have h1 := hb.size
      refine ⟨hg5.os.trans (hb2.os.trans hb.os), hg5.tape.trans (hb2.tape.trans hb.tape), hg5.output.trans (hb2.output.trans hb.output), by omega, fun y hy => ?_⟩
      exact (hsame y (by omega) (by omega) (by omega)).trans (hb.block y hy)
    generalize F5 (w2.setCell ⟨M, 3, none⟩ (.bool q)) R 0 ⟨op, ca, cn, cc, av, k, cv, q, false⟩ = V at hVs hsame hbel ⊢
    clear hg5
    have hbw : Below w.heap.size w V := by rw [← hH]; exact hbel
    have hold : ∀ y, (Value.slice av k cv).ownBlock = some y → H + 3 ≤ y ∧ y < wt.heap.size := h3.lt
    refine ⟨hbw, ⟨op, ca, cn, cc, av, k, cv, q, false⟩, fun y => (Value.slice av k cv).ownBlock = some y ∨ ∃ i, i < k ∧ fq i y, rfl, fun y hy => ?_, ?_⟩
    · rcases hy with hy | ⟨i, hi, hy⟩
      · have := hold y hy; omega
      · have := (h7 i (by omega) (by omega)).1 y hy; omega
    · have hlen : (toL (n.nrm t).kids).length = k := by rw [hkids]; simpa using hlk
      have hemp : (n.nrm t).emp = q := by
        show nodeM (n.nrm t).op (den (n.nrm t).kids) = q
        rw [show (n.nrm t).op = op from hop.symm, hq, hem, ← empF_den, ← hkids]
        rw [den_map (n.nrm t).kids, den_map (ofL _), toL_ofL]
      refine ⟨ca, cc, av, cv, ?_, ?_, hcb, hcl, ⟨?_, ?_⟩, fun hp => ?_⟩
      · rw [hlen, hemp, end_nil]
        show [Value.int .i64 op, .slice ca cn cc, _, _, _] = [Value.int .i64 n.op, .slice ca n.cl.length cc, _, _, _]
        rw [hop, hcn]
      · exact hrd.later hbw
      · rw [hlen, ← hlk, hls, revL_len]
        split
        · exact hkl
        · exact Nat.zero_le _
      · intro hno
        rw [hlen, ← hlk, hls]
        have : cnt op K = false := by
          unfold cnt
          have h1 : ¬ (op = 2 ∨ op = 3 ∨ op = 4 ∨ op = 5) := by rw [hop]; exact hno
          rw [decide_eq_false (by omega), decide_eq_false (by omega)]; rfl
        rw [this, revL_len]
        rfl
      · rw [hlen] at hp
        obtain ⟨g, rfl, hgH, cur, hg, hgs, htk, _⟩ := own_cells5 h3 hp
        have hgl := (hold g rfl).2
        refine ⟨g, cur, rfl, (hsame g hgl (by omega) (by omega)).trans hg, .inl rfl, by rw [hlen]; omega, fq, fun i hi => ?_⟩
        rw [hlen] at hi
        obtain ⟨r1, r2, r3⟩ := h7 i (by omega) (by omega)
        refine ⟨fun hx => (r1 g hx).2.2 rfl, fun y hy => .inr ⟨i, hi, hy⟩, r2, ?_⟩
        rw [hs_nil, ← five_take (m := k * 5) (by omega), htk, flatK_at ys i (by omega)]
        have hki : (toL (n.nrm t).kids)[i]'(by rw [hlen]; exact hi) = ls[i].nrm t := by simp only [hkids, List.getElem_map]
        rw [hki]
        refine r3.frame d (fun y hy hf => ?_)
        refine hsame y hy ?_ ?_
        · rcases hf with hf | hf
          · have := r1 y hf; omega
          · omega
        · rcases hf with hf | hf
          · have := r1 y hf; omega
          · omega
end Go.Proofs.Ytjbhfonokgkalaa
