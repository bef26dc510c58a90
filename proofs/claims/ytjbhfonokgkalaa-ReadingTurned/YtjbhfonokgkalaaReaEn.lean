/- What several statements of reading take: appends of rules, rules behind others, rows of answers. -/
import Derived.Test.YtjbhfonokgkalaaReaZ
namespace Go.Proofs.Ytjbhfonokgkalaa
open Go.RowKit
set_option linter.unusedVariables false

/-- append of a source that may be nothing. -/
theorem wpList_append_src {P : Program} {w : World} {ops : Array Oper} {rest : List Oper} {o : Oper} {a : Act} {Q : Exit → Act → World → Prop} (hgd : o.guard = none) (s x : Operand) (t : TypeId)
    (ho : o.op = .call { callee := .builtin .append, args := #[s, x], argTypes := #[t, t] })
    (base : Nat) (e : TypeId) (i : TypeInfo) (z : Value) (size bytes : Nat) (ht : P.underlying t = some (.slice e)) (hi : P.info? e = some i) (hz : i.zero = some z)
    (hsize : i.size = size) (hby : i.bytes = bytes) (hzs : z.cells.size = size) (hsz : 0 < size)
    (v : Value) (n : Nat) (xs : List Value) (hs : a.eval s = v) (hown : w.ownsRow base e size v n xs)
    (ad : Option Addr) (m c : Nat) (news : List Value) (hx : a.eval x = .slice ad m c) (hsrc : SrcAt w ad m c size news)
    (h63 : n + m ≤ maxLen) (hbytes : (n + m) * bytes ≤ 140737488355328) (hbase : base ≤ w.heap.size)
    (h : ∀ v' w', w'.ownsRow base e size v' (n + m) (xs ++ news) → w.grownBy w' v.ownBlock → wpList P ops Q rest (a.put o.dst v') w') : wpList P ops Q (o :: rest) a w := by
  obtain ⟨s1, s2, s3, s4⟩ := hsrc
  cases ad with
  | some b => exact wpList_append_own _ hgd s x t ho base e i z size bytes ht hi hz hsize hby hzs hsz v n xs hs hown b m c news hx s1 (s3 b rfl) s4 h63 hbytes hbase (fun v' w' h1 h2 _ => h v' w' h1 h2)
  | none =>
    obtain ⟨rfl, rfl⟩ := s2 rfl
    obtain rfl : news = [] := List.eq_nil_of_length_eq_zero (by simpa using s1)
    exact wpList_append_own_none hgd s x t ho base e i size ht hi v n xs hs hown hx (h v w (by simpa using hown) ⟨rfl, rfl, rfl, Nat.le_refl _, fun _ _ _ => rfl⟩)
theorem below_drewN {B : Nat} {w w' : World} (h : Below B w w') (n : Nat) : Below B w (w'.drewN n) := ⟨h.os, h.tape, h.output, h.size, h.block⟩
/-- The rule that is nothing. -/
def rule0 : Rl := ⟨nilNd, nilNd, false, false⟩
def q00 : RlP := ⟨none, 0, none, 0, none, 0, none, 0⟩
theorem rule0_at (w : World) : RlAt w 12 rule0 q00 := ⟨InV.leaf w 11 0 [] none 0 (rd_nil _ _) (by simp), InV.leaf w 11 0 [] none 0 (rd_nil _ _) (by simp)⟩
theorem rule0_fit (xs : List Int) (p : Nat) : rule0.fit xs p = true := by
  have h1 : (nilNd.nrm false).emp = true := rfl
  have h2 : (nilNd.nrm true).emp = true := rfl
  unfold Rl.fit Rl.fitL Rl.fitR
  show (endsAt (nilNd.nrm false) true _ && endsAt (nilNd.nrm true) true _) = true
  unfold endsAt
  rw [h1, h2]
  simp
theorem says_behind (q : Rl → Bool) (r0 : Rl) (h : q r0 = true) : (l : List Rl) → saysB q (l ++ [r0]) = if firstI q l = -1 then r0.brk else saysB q l
  | [] => by simp [saysB, h, firstI]
  | r :: l => by
    have ih := says_behind q r0 h l
    simp only [List.cons_append, saysB, ih]
    cases hq : q r with
    | true => simp [firstI, hq]
    | false =>
      by_cases hf : firstI q l = -1
      · simp [firstI, hq, hf]
      · have hf2 : ¬ firstI q l + 1 = -1 := by
          rcases firstI_cases q l with ⟨h1, _⟩ | ⟨k, _, h1, _⟩
          · exact absurd h1 hf
          · omega
        simp [firstI, hq, hf, hf2]
/-- Two more rules, one behind the other. -/
theorem own_behind {w : World} {B : Nat} {ps : List (Rl × RlP)} {v : Value} {n : Nat} (hn : n = ps.length) (hr : ∀ x ∈ ps, RlAt w 12 x.1 x.2) (r : Rl) (q : RlP) (h0 : RlAt w 12 r q) (h : w.ownsRow B 35 8 v (n + 1) (flatU ps ++ (r.vals q).toList)) : OwnU w B v 12 (ps.map (fun x => x.1) ++ [r]) := by
  refine ⟨ps ++ [(r, q)], by simp, ?_, fun x hx => ?_⟩
  · rw [show (ps ++ [(r, q)]).length = n + 1 by simp [hn], show flatU (ps ++ [(r, q)]) = flatU ps ++ (r.vals q).toList by simp [flatU]]
    exact h
  · rcases List.mem_append.1 hx with hx | hx
    · exact hr x hx
    · rw [List.mem_singleton.1 hx]; exact h0
/-- What is told of all places, of no rules. -/
theorem bound_none (xs : List Int) (p : Nat) (hp : p ≤ xs.length) : boundAt [] xs p = decide (0 < xs.length) := by
  unfold boundAt
  split
  · rfl
  · rename_i h
    simp only [saysB]
    symm
    rw [decide_eq_true_eq]
    omega
theorem fit_fitI (r : Rl) (xs : List Int) (p : Nat) (hp : p ≤ xs.length) : fitI r xs (p : Int) = r.fit xs p := by
  unfold fitI
  rw [if_pos (by omega)]
  rfl
theorem rowB_at {w : World} {B : Nat} {v : Value} {bs : List Bool} (h : w.ownsRow B 4 1 v bs.length (bs.map Value.bool)) (hp : 0 < bs.length) : ∃ g c, v = .slice (some ⟨g, 0, none⟩) bs.length c ∧ ∀ i, i < bs.length → w.cell? ⟨g, i, none⟩ = some (.bool (bs.getD i false)) := by
  obtain ⟨a, c, rfl⟩ := own_sl1 h
  obtain ⟨g, rfl, hb, cur, hg, hc⟩ := own_cells1 h hp
  exact ⟨g, c, rfl, fun i hi => by rw [hc i hi]; simp [hi]⟩

end Go.Proofs.Ytjbhfonokgkalaa
