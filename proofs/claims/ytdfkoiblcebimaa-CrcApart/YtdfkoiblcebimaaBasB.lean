/- What serves every layer: cuts of slices in the midst, strings of any bytes, appending a string. -/
import Derived.Test.YtdfkoiblcebimaaBasA
import Derived.Lib.AppendStr
namespace Go.Proofs.Ytdfkoiblcebimaa
open Go.RowKit
set_option linter.unusedVariables false

theorem add_lit (b off n : Nat) : (⟨b, off, none⟩ : Addr).add n = ⟨b, off + n, none⟩ := by unfold Addr.add; split <;> simp_all
/-- A slice that is cut at both ends reads as the part. -/
theorem cut_mid {w : World} {a : Option Addr} {len cap : Nat} {xs : List Int} (h : Rd .u8 w a len xs) (lo hi : Nat) (h1 : lo ≤ hi) (h2 : hi ≤ len) (h3 : len ≤ cap) :
    ∃ a', (∀ W, (Instr.slice 22 (.slice a len cap) (some (.int .i64 lo)) (some (.int .i64 hi)) none).run Try.prog W = .ok (.slice a' (hi - lo) (cap - lo)) W) ∧ Rd .u8 w a' (hi - lo) ((xs.drop lo).take (hi - lo)) := by
  refine ⟨if cap = lo then a else a.map (·.add lo), fun W => ?_, by have := h.1; simp; omega, fun hp => ?_⟩
  · have g0 : (0 : Int) ≤ (lo : Int) := by omega
    have g1 : (lo : Int) ≤ (hi : Int) := by omega
    have g2 : (hi : Int) ≤ (cap : Int) := by omega
    go_simp
  · obtain ⟨b, off, rfl, hc⟩ := h.2 (by omega)
    rw [if_neg (by omega)]
    refine ⟨b, off + lo, by simp [add_lit], fun i hi' => ?_⟩
    rw [show off + lo + i = off + (lo + i) by omega, hc (lo + i) (by omega)]
    simp [hi']
/-- A slice that is cut at its beginning reads as the rest. -/
theorem cut_from {w : World} {a : Option Addr} {len cap : Nat} {xs : List Int} (h : Rd .u8 w a len xs) (lo : Nat) (h2 : lo ≤ len) (h3 : len ≤ cap) :
    ∃ a', (∀ W, (Instr.slice 22 (.slice a len cap) (some (.int .i64 lo)) none none).run Try.prog W = .ok (.slice a' (len - lo) (cap - lo)) W) ∧ Rd .u8 w a' (len - lo) (xs.drop lo) := by
  refine ⟨if cap = lo then a else a.map (·.add lo), fun W => ?_, by have := h.1; simp; omega, fun hp => ?_⟩
  · have g0 : (0 : Int) ≤ (lo : Int) := by omega
    have g1 : (lo : Int) ≤ (len : Int) := by omega
    go_simp
  · obtain ⟨b, off, rfl, hc⟩ := h.2 (by omega)
    rw [if_neg (by omega)]
    refine ⟨b, off + lo, by simp [add_lit], fun i hi' => ?_⟩
    rw [show off + lo + i = off + (lo + i) by omega, hc (lo + i) (by omega)]
    simp

/-- Any string is that of its numbers. -/
def nums (s : ByteArray) : List Int := s.data.toList.map fun b => (b.toNat : Int)
theorem nums_len (s : ByteArray) : (nums s).length = s.size := by
  unfold nums; rw [List.length_map, Array.length_toList]; rfl
theorem nums_rng (s : ByteArray) : ∀ y ∈ nums s, 0 ≤ y ∧ y ≤ 255 := by
  intro y hy
  unfold nums at hy
  simp at hy
  obtain ⟨b, _, rfl⟩ := hy
  have := b.toNat_lt
  omega
theorem str_of (s : ByteArray) : s = strOfNums (nums s) := by
  apply str_ext
  rw [strOfNums_data]
  unfold nums
  rw [List.map_map]
  conv => lhs; rw [← List.map_id s.data.toList]
  apply List.map_congr_left
  intro b _
  simp
theorem cells_of (ts : List Int) (h : ∀ y ∈ ts, 0 ≤ y ∧ y ≤ 255) : Lib.strCells (strOfNums ts) = ts.map (Value.int .u8) := by
  unfold Lib.strCells
  rw [strOfNums_data, List.map_map]
  apply List.map_congr_left
  intro y hy
  have := h y hy
  simp
  omega
theorem wpList_append_nums {w : World} {ops : Array Oper} {rest : List Oper} {o : Oper} {a : Act} {Q : Exit → Act → World → Prop} (hgd : o.guard = none) (sl x : Operand)
    (ho : o.op = .call { callee := .builtin .append, args := #[sl, x], argTypes := #[22, 9] })
    (base : Nat) (v : Value) (n : Nat) (xs : List Int) (hs : a.eval sl = v) (hown : w.ownsRow base 5 1 v n (xs.map (Value.int .u8))) (ts : List Int) (hr : ∀ y ∈ ts, 0 ≤ y ∧ y ≤ 255) (hx : a.eval x = .string (strOfNums ts))
    (hbytes : n + ts.length ≤ 140737488355328) (hbase : base ≤ w.heap.size)
    (h : ∀ v' w', w'.ownsRow base 5 1 v' (n + ts.length) ((xs ++ ts).map (Value.int .u8)) → w.grownBy w' v.ownBlock → wpList Try.prog ops Q rest (a.put o.dst v') w') : wpList Try.prog ops Q (o :: rest) a w := by
  obtain ⟨i0, hi, hz0, hz1, hz2⟩ := info_parts info_u8
  have hsz := strOfNums_size ts
  refine Lib.wpList_append_own_string w hgd sl x 22 9 ho base 5 i0 Try.underlying22 Try.underlying9 hi hz0 hz1 hz2 v n _ hs hown (strOfNums ts) hx (by rw [hsz]; unfold maxLen; omega) (by omega) hbase ?_
  intro v' w' h1 h2 _
  rw [hsz, cells_of ts hr] at h1
  exact h v' w' (by simpa using h1) h2
theorem rd_own2 {k : IntKind} {w : World} {B : Nat} {e : TypeId} {v : Value} {n : Nat} {xs : List Int} (h : w.ownsRow B e 1 v n (xs.map (Value.int k))) :
    ∃ a cap, v = .slice a n cap ∧ n ≤ cap ∧ cap ≤ 9223372036854775807 ∧ Rd k w a n xs ∧ (a = none → cap = 0) := by
  obtain ⟨a, cap, rfl, h1, h2, h3⟩ := rd_own h
  refine ⟨a, cap, rfl, h1, h2, h3, fun ha => ?_⟩
  subst ha
  rcases h.2 with ⟨hv, _⟩ | ⟨g, cap', cur, hv, _⟩
  · cases hv; rfl
  · cases hv
theorem u64_of_wf {a : Int} (h : (Lit.int .u64 a).wf = true) : 0 ≤ a ∧ a ≤ 18446744073709551615 := by
  simp [Lit.wf, IntKind.min, IntKind.max, IntKind.bits, IntKind.signed] at h
  omega
theorem u8_of_wf {a : Int} (h : (Lit.int .u8 a).wf = true) : 0 ≤ a ∧ a ≤ 255 := by
  simp [Lit.wf, IntKind.min, IntKind.max, IntKind.bits, IntKind.signed] at h
  omega
theorem i64_of_wf {a : Int} (h : (Lit.int .i64 a).wf = true) : -9223372036854775808 ≤ a ∧ a ≤ 9223372036854775807 := by
  simp [Lit.wf, IntKind.min, IntKind.max, IntKind.bits, IntKind.signed] at h
  omega
theorem rd_nil (k : IntKind) (w : World) : Rd k w none 0 [] := ⟨rfl, fun h => absurd h (by omega)⟩
theorem str_len (ts : List Int) : (strOfNums ts).size = ts.length := strOfNums_size ts
theorem str_cut (s : ByteArray) (len n : Nat) (c : Int) (hl : s.size = len) (h : (n : Int) = min (len : Int) c) (hc : 0 ≤ c) (W : World) : (Instr.slice 9 (.string s) none (some (.int .i64 n)) none).run Try.prog W = .ok (.string (strOfNums ((nums s).take n))) W := by
  conv => lhs; rw [str_of s]
  exact str_take (nums s) n (by rw [nums_len]; omega) W
end Go.Proofs.Ytdfkoiblcebimaa
