/- Appending what can be read to a row of the call's own. -/
import Derived.Test.YtdoflmgdmcmmfaaUtfH
import Derived.Laws.AppendOwnNone
namespace Go.Proofs.Ytdoflmgdmcmmfaa
open Go.RowKit
set_option linter.unusedVariables false

theorem rd_news {k : IntKind} {w : World} {x : Addr} {m : Nat} {ns : List Int} (h : Rd k w (some x) m ns) : ∀ (j : Nat) (u : Value), (ns.map (Value.int k))[j]? = some u → w.cell? (x.add j) = some u := by
  intro j u hu
  have hj : j < ns.length := by
    rcases Nat.lt_or_ge j ns.length with h | h
    · exact h
    · simp [List.getElem?_eq_none h] at hu
  obtain ⟨b, off, hx, hc⟩ := h.2 (by have := h.1; omega)
  cases hx
  have e : (⟨b, off, none⟩ : Addr).add j = ⟨b, off + j, none⟩ := by unfold Addr.add; split <;> simp_all
  rw [e, hc j (by have := h.1; omega)]
  simp [hj] at hu
  simp [hj, hu]

theorem wpList_append_rd {P : Program} {w : World} {ops : Array Oper} {rest : List Oper} {o : Oper} {a : Act} {Q : Exit → Act → World → Prop} (hgd : o.guard = none) (s x : Operand) (t : TypeId)
    (ho : o.op = .call { callee := .builtin .append, args := #[s, x], argTypes := #[t, t] })
    (base : Nat) (e : TypeId) (i : TypeInfo) (z : Value) (bytes : Nat) (ht : P.underlying t = some (.slice e)) (hi : P.info? e = some i) (hz : i.zero = some z)
    (hsize : i.size = 1) (hby : i.bytes = bytes) (hzs : z.cells.size = 1)
    (v : Value) (n : Nat) (xs : List Value) (hs : a.eval s = v) (hown : w.ownsRow base e 1 v n xs)
    (ad : Option Addr) (m c : Nat) (k : IntKind) (ns : List Int) (hx : a.eval x = .slice ad m c) (hrd : Rd k w ad m ns) (hnone : ad = none → c = 0)
    (h63 : n + m ≤ maxLen) (hbytes : (n + m) * bytes ≤ 140737488355328) (hbase : base ≤ w.heap.size)
    (h : ∀ v' w', w'.ownsRow base e 1 v' (n + m) (xs ++ ns.map (Value.int k)) → w.grownBy w' v.ownBlock → wpList P ops Q rest (a.put o.dst v') w') : wpList P ops Q (o :: rest) a w := by
  cases ad with
  | none =>
    have hm : m = 0 := by
      rcases Nat.eq_zero_or_pos m with h0 | h0
      · exact h0
      · obtain ⟨b, off, hx, _⟩ := hrd.2 h0; cases hx
    subst hm
    have hn : ns = [] := by have := hrd.1; cases ns with
      | nil => rfl
      | cons _ _ => simp at this
    subst hn
    rw [hnone rfl] at hx
    exact wpList_append_own_none hgd s x t ho base e i 1 ht hi v n xs hs hown hx (h v w (by simpa using hown) ⟨rfl, rfl, rfl, Nat.le_refl _, fun _ _ _ => rfl⟩)
  | some x' =>
    exact wpList_append_own _ hgd s x t ho base e i z 1 bytes ht hi hz hsize hby hzs (by decide) v n xs hs hown x' m c (ns.map (Value.int k)) hx (by simpa using hrd.1) (rd_news hrd) (by simp [Value.oneCell']) h63 hbytes hbase
      (fun v' w' h1 h2 _ => h v' w' h1 h2)

theorem rd_row_none {k : IntKind} {w : World} {a : Option Addr} {len cap : Nat} {zs : List Int}
    (h : (a = none ∧ len = 0 ∧ cap = 0 ∧ zs = []) ∨ ∃ x, a = some x ∧ len ≤ cap ∧ cap ≤ maxLen ∧ zs.length = cap ∧ (∀ i, i < zs.length → w.cell? (x.add i) = some (.int k (zs.getD i 0))) ∧ ∀ n ∈ zs, (Lit.int k n).wf = true) : a = none → cap = 0 := by
  rcases h with ⟨rfl, rfl, rfl, rfl⟩ | ⟨x, rfl, _⟩
  · intro _; rfl
  · intro h; cases h

theorem own_none {w : World} (B : Nat) (e : TypeId) (hB : B ≤ w.heap.size) (H : Nat) (hH : w.heap.size = H) : (w.alloc (.cells #[] e)).ownsRow B e 1 (.slice (some ⟨H, 0, none⟩) 0 0) 0 [] := by
  subst hH; exact World.ownsRow_made w #[] 0 hB (by simp [maxLen]) rfl
theorem bytes_of_wf {zs : List Int} (h : ∀ n ∈ zs, (Lit.int .u8 n).wf = true) (k : Nat) : ∀ y ∈ zs.take k, 0 ≤ y ∧ y ≤ 255 := by
  intro y hy
  have := h y (List.mem_of_mem_take hy)
  simp [Lit.wf, IntKind.min, IntKind.max, IntKind.bits, IntKind.signed] at this
  omega
end Go.Proofs.Ytdoflmgdmcmmfaa
