/- What serves every layer that has no rows of bytes: rows of numbers that can be read in memory, strings as rows of numbers; no function of the program is named here. -/
import Derived.Test.YtcbnmahbdcjamaaProg
import Derived.WalkKit
import Derived.WalkLawsBesides
import Derived.Carry
import Derived.Deep.AppendLies
import Derived.LoopN
import Derived.Laws.BytesArg
import Derived.Laws.AppendOwnNone
import Derived.Lib.Strings
import Derived.Lib.AppendStr
import Derived.Deep.RegionWith
namespace Go.Proofs.Ytcbnmahbdcjamaa
open Go.RowKit
set_option linter.unusedVariables false

theorem ret_int {k : IntKind} {a b : Int} (h : a = b) : Ending.returned (.int k a) = .returned (.int k b) := by rw [h]
theorem ret_bool {a b : Bool} (h : a = b) : Ending.returned (.bool a) = .returned (.bool b) := by rw [h]
theorem news_pre {w : World} {B : Nat} {cs : Array Value} {t : TypeId} {fr : Nat × Nat} {news rest : List Value} (hb : w.heap[B]? = some (.cells cs t fr)) (hcs : cs.toList = news ++ rest) :
    ∀ j u, news[j]? = some u → w.cell? ((⟨B, 0, none⟩ : Addr).add j) = some u := fun j u hu =>
  World.news_of_block hb j u (by rw [hcs, List.getElem?_append_left (by rcases Nat.lt_or_ge j news.length with h | h <;> first | exact h | (simp [List.getElem?_eq_none h] at hu))]; exact hu)
def Rd (k : IntKind) (w : World) (a : Option Addr) (len : Nat) (xs : List Int) : Prop :=
  xs.length = len ∧ (0 < len → ∃ b off, a = some ⟨b, off, none⟩ ∧ ∀ i, i < len → w.cell? ⟨b, off + i, none⟩ = some (.int k (xs.getD i 0)))
theorem Rd.later {k : IntKind} {w w' : World} {a : Option Addr} {len : Nat} {xs : List Int} (h : Rd k w a len xs) (hb : Below w.heap.size w w') : Rd k w' a len xs := by
  refine ⟨h.1, fun hp => ?_⟩
  obtain ⟨b, off, ha, hc⟩ := h.2 hp
  refine ⟨b, off, ha, fun i hi => ?_⟩
  exact (hb.cell (p := ⟨b, off + i, none⟩) (World.block_lt_of_cell? w _ (hc i hi))).trans (hc i hi)
def slen : Value → Nat
  | .slice _ n _ => n
  | _ => 0
theorem Rd.take {k : IntKind} {w : World} {a : Option Addr} {len : Nat} {xs : List Int} (h : Rd k w a len xs) (n : Nat) (hn : n ≤ len) : Rd k w a n (xs.take n) := by
  refine ⟨by have := h.1; simp; omega, fun hp => ?_⟩
  obtain ⟨b, off, ha, hc⟩ := h.2 (by omega)
  refine ⟨b, off, ha, fun i hi => ?_⟩
  rw [hc i (by omega)]
  simp [hi]
theorem rd_own {k : IntKind} {w : World} {B : Nat} {e : TypeId} {v : Value} {n : Nat} {xs : List Int} (h : w.ownsRow B e 1 v n (xs.map (Value.int k))) :
    ∃ a cap, v = .slice a n cap ∧ n ≤ cap ∧ cap ≤ 9223372036854775807 ∧ Rd k w a n xs := by
  have hl : xs.length = n := by simpa using h.1
  rcases h.2 with ⟨rfl, rfl⟩ | ⟨g, cap, cur, rfl, hb, hg, hn, hm, hs, ht⟩
  · exact ⟨none, 0, rfl, by omega, by omega, hl, fun hp => absurd hp (by omega)⟩
  · refine ⟨_, cap, rfl, hn, by simpa [maxLen] using hm, hl, fun hp => ⟨g, 0, rfl, fun i hi => ?_⟩⟩
    rw [cell_of_row w g (0 + i) cur e (0, 0) hg]
    have h1 : (cur.toList.take (n * 1))[i]? = (xs.map (Value.int k))[i]? := by rw [ht]
    rw [List.getElem?_take, if_pos (by omega)] at h1
    simp at h1 ⊢
    rw [h1]
    simp [show i < xs.length by omega]
theorem rd_two (k : IntKind) (w : World) (x y : Int) (t : TypeId) (H : Nat) (hH : w.heap.size = H) : Rd k (w.alloc (.cells #[.int k x, .int k y] t)) (some ⟨H, 0, none⟩) 2 [x, y] := by
  subst hH
  refine ⟨rfl, fun _ => ⟨w.heap.size, 0, rfl, fun i hi => ?_⟩⟩
  rw [cell_of_row _ w.heap.size (0 + i) _ _ _ (heap_alloc_new w _)]
  rcases (by omega : i = 0 ∨ i = 1) with rfl | rfl <;> rfl
theorem rd_one (k : IntKind) (w : World) (x : Int) (t : TypeId) (H : Nat) (hH : w.heap.size = H) : Rd k (w.alloc (.cells #[.int k x] t)) (some ⟨H, 0, none⟩) 1 [x] := by
  subst hH
  refine ⟨rfl, fun _ => ⟨w.heap.size, 0, rfl, fun i hi => ?_⟩⟩
  rw [cell_of_row _ w.heap.size (0 + i) _ _ _ (heap_alloc_new w _)]
  obtain rfl : i = 0 := by omega
  rfl
theorem rd_block (w : World) (xs : List Int) (cs : Array Value) (t : TypeId) (hcs : cs.toList = xs.map (Value.int .u8)) (H : Nat) (hH : w.heap.size = H) (n : Nat) (hn : xs.length = n) : Rd .u8 (w.alloc (.cells cs t)) (some ⟨H, 0, none⟩) n xs := by
  subst hH
  refine ⟨hn, fun _ => ⟨w.heap.size, 0, rfl, fun i hi => ?_⟩⟩
  rw [cell_of_row _ w.heap.size (0 + i) _ _ _ (heap_alloc_new w _)]
  have : cs[0 + i]? = (xs.map (Value.int .u8))[i]? := by rw [← hcs]; simp
  rw [this]
  simp [show i < xs.length by omega]
theorem add_zero (a : Option Addr) (c : Nat) : (if c = 0 then a else a.map (·.add 0)) = a := by
  split
  · rfl
  · cases a with
    | none => rfl
    | some x => cases x; simp [Addr.add]
theorem min_run (len n : Nat) (c : Int) (h : (n : Int) = min (len : Int) c) (W : World) : (Builtin.min_ #[3, 3] 3 #[.int .i64 len, .int .i64 c]).run Try.prog W = .ok (.int .i64 n) W := by
  rw [run_min_int2, h]
  congr 2
  split <;> omega
theorem rd_row {k : IntKind} {w : World} {a : Option Addr} {len cap : Nat} {zs : List Int}
    (h : (a = none ∧ len = 0 ∧ cap = 0 ∧ zs = []) ∨ ∃ x, a = some x ∧ len ≤ cap ∧ cap ≤ maxLen ∧ zs.length = cap ∧ (∀ i, i < zs.length → w.cell? (x.add i) = some (.int k (zs.getD i 0))) ∧ ∀ n ∈ zs, (Lit.int k n).wf = true) :
    len ≤ cap ∧ cap ≤ 9223372036854775807 ∧ (∀ n, n ≤ len → Rd k w a n (zs.take n)) ∧ ∀ n ∈ zs, (Lit.int k n).wf = true := by
  rcases h with ⟨rfl, rfl, rfl, rfl⟩ | ⟨x, rfl, h1, h2, h3, h4, h5⟩
  · exact ⟨by omega, by omega, fun n hn => ⟨by simp; omega, fun hp => absurd hp (by omega)⟩, by simp⟩
  · refine ⟨h1, by simpa [maxLen] using h2, fun n hn => ⟨by simp; omega, fun hp => ?_⟩, h5⟩
    obtain ⟨b, off, spot⟩ := x
    have h40 := h4 0 (by omega)
    have hspot : spot = none := by simpa [Addr.add] using World.cell?_spot h40
    subst hspot
    refine ⟨b, off, rfl, fun i hi => ?_⟩
    have := h4 i (by omega)
    have e : (⟨b, off, none⟩ : Addr).add i = ⟨b, off + i, none⟩ := by unfold Addr.add; split <;> simp_all
    rw [e] at this
    rw [this]
    simp [hi]
theorem rd_row_none {k : IntKind} {w : World} {a : Option Addr} {len cap : Nat} {zs : List Int}
    (h : (a = none ∧ len = 0 ∧ cap = 0 ∧ zs = []) ∨ ∃ x, a = some x ∧ len ≤ cap ∧ cap ≤ maxLen ∧ zs.length = cap ∧ (∀ i, i < zs.length → w.cell? (x.add i) = some (.int k (zs.getD i 0))) ∧ ∀ n ∈ zs, (Lit.int k n).wf = true) : a = none → cap = 0 := by
  rcases h with ⟨rfl, rfl, rfl, rfl⟩ | ⟨x, rfl, _⟩
  · intro _; rfl
  · intro h; cases h
theorem bytes_of_wf {zs : List Int} (h : ∀ n ∈ zs, (Lit.int .u8 n).wf = true) (k : Nat) : ∀ y ∈ zs.take k, 0 ≤ y ∧ y ≤ 255 := by
  intro y hy
  have := h y (List.mem_of_mem_take hy)
  simp [Lit.wf, IntKind.min, IntKind.max, IntKind.bits, IntKind.signed] at this
  omega
theorem rd_news {k : IntKind} {w : World} {x : Addr} {m : Nat} {ns : List Int} (h : Rd k w (some x) m ns) : ∀ (j : Nat) (u : Value), (ns.map (Value.int k))[j]? = some u → w.cell? (x.add j) = some u := by
  intro j u hu
  have hj : j < ns.length := by
    rcases Nat.lt_or_ge j ns.length with h | h
    · exact h
    · simp [List.getElem?_eq_none h] at hu
  obtain ⟨b, off, hx, hc⟩ := h.2 (by have := h.1; omega)
  cases hx
  have e : (⟨b, off, none⟩ : Addr).add j = ⟨b, off + j, none⟩ := by unfold Addr.add; split <;> simp_all
  rw [e, hc j (by have := h.1; omega)]
  simp [hj] at hu
  simp [hj, hu]
theorem wpList_append_rd {P : Program} {w : World} {ops : Array Oper} {rest : List Oper} {o : Oper} {a : Act} {Q : Exit → Act → World → Prop} (hgd : o.guard = none) (s x : Operand) (t : TypeId)
    (ho : o.op = .call { callee := .builtin .append, args := #[s, x], argTypes := #[t, t] })
    (base : Nat) (e : TypeId) (i : TypeInfo) (z : Value) (bytes : Nat) (ht : P.underlying t = some (.slice e)) (hi : P.info? e = some i) (hz : i.zero = some z)
    (hsize : i.size = 1) (hby : i.bytes = bytes) (hzs : z.cells.size = 1)
    (v : Value) (n : Nat) (xs : List Value) (hs : a.eval s = v) (hown : w.ownsRow base e 1 v n xs)
    (ad : Option Addr) (m c : Nat) (k : IntKind) (ns : List Int) (hx : a.eval x = .slice ad m c) (hrd : Rd k w ad m ns) (hnone : ad = none → c = 0)
    (h63 : n + m ≤ maxLen) (hbytes : (n + m) * bytes ≤ 140737488355328) (hbase : base ≤ w.heap.size)
    (h : ∀ v' w', w'.ownsRow base e 1 v' (n + m) (xs ++ ns.map (Value.int k)) → w.grownBy w' v.ownBlock → wpList P ops Q rest (a.put o.dst v') w') : wpList P ops Q (o :: rest) a w := by
  cases ad with
  | none =>
    have hm : m = 0 := by
      rcases Nat.eq_zero_or_pos m with h0 | h0
      · exact h0
      · obtain ⟨b, off, hx, _⟩ := hrd.2 h0; cases hx
    subst hm
    have hn : ns = [] := by have := hrd.1; cases ns with
      | nil => rfl
      | cons _ _ => simp at this
    subst hn
    rw [hnone rfl] at hx
    exact wpList_append_own_none hgd s x t ho base e i 1 ht hi v n xs hs hown hx (h v w (by simpa using hown) ⟨rfl, rfl, rfl, Nat.le_refl _, fun _ _ _ => rfl⟩)
  | some x' =>
    exact wpList_append_own _ hgd s x t ho base e i z 1 bytes ht hi hz hsize hby hzs (by decide) v n xs hs hown x' m c (ns.map (Value.int k)) hx (by simpa using hrd.1) (rd_news hrd) (by simp [Value.oneCell']) h63 hbytes hbase
      (fun v' w' h1 h2 _ => h v' w' h1 h2)
theorem own_none {w : World} (B : Nat) (e : TypeId) (hB : B ≤ w.heap.size) (H : Nat) (hH : w.heap.size = H) : (w.alloc (.cells #[] e)).ownsRow B e 1 (.slice (some ⟨H, 0, none⟩) 0 0) 0 [] := by
  subst hH; exact World.ownsRow_made w #[] 0 hB (by simp [maxLen]) rfl
theorem own_later {w w' : World} {B : Nat} {e : TypeId} {v : Value} {n : Nat} {xs : List Value} (h : w.ownsRow B e 1 v n xs) (hb : Below w.heap.size w w') : w'.ownsRow B e 1 v n xs :=
  h.kept (row := none) ⟨hb.os, hb.tape, hb.output, hb.size, fun k hk _ => hb.block k hk⟩ (Classical.em _)
theorem own_form {w : World} {B : Nat} {e : TypeId} {v : Value} {n : Nat} {xs : List Value} (h : w.ownsRow B e 1 v n xs) : ∃ a cap, v = .slice a n cap ∧ n ≤ cap ∧ cap ≤ 9223372036854775807 ∧ (0 < n → ∃ g, a = some ⟨g, 0, none⟩ ∧ B ≤ g ∧ g < w.heap.size) := by
  rcases h.2 with ⟨rfl, rfl⟩ | ⟨g, cap, cur, rfl, hb, hg, hn, hm, _⟩
  · exact ⟨none, 0, rfl, by omega, by omega, fun h => absurd h (by omega)⟩
  · exact ⟨_, cap, rfl, hn, by simpa [maxLen] using hm, fun _ => ⟨g, rfl, hb, (Array.getElem?_eq_some_iff.1 hg).1⟩⟩
theorem below_own {w w1 : World} {o : Obj} {v : Value} {n : Nat} {xs : List Value} {e : TypeId} (hown : (w.alloc o).ownsRow w.heap.size e 1 v n xs) (h : (w.alloc o).grownBy w1 v.ownBlock) : Below w.heap.size w w1 :=
  ((Below.refl _ w).alloc (Nat.le_refl _) o).grown h (by simp) (fun k hk => (hown.lt k hk).1)
theorem and_low (n m : Int) (j : Nat) (hj : j ≤ 20) (hm : (BitVec.ofInt 64 m).toNat = 2 ^ j - 1) : bits .and .i64 n m = n % 2 ^ j := by
  have key : (BitVec.ofInt 64 n &&& BitVec.ofInt 64 m).toNat = (n % ((2 ^ 64 : Nat) : Int)).toNat % 2 ^ j := by
    rw [BitVec.toNat_and, BitVec.toNat_ofInt, hm, Nat.and_two_pow_sub_one_eq_mod]
  show IntKind.i64.wrap ((BitVec.ofInt 64 n &&& BitVec.ofInt 64 m).toNat : Nat) = n % 2 ^ j
  rw [key, IntKind.wrap_i64]
  have hd : ((2 ^ j : Nat) : Int) ∣ ((2 ^ 64 : Nat) : Int) := by
    have : (2 ^ j : Nat) ∣ (2 ^ 64 : Nat) := Nat.pow_dvd_pow 2 (by omega)
    exact_mod_cast this
  have h0 : 0 ≤ n % ((2 ^ 64 : Nat) : Int) := Int.emod_nonneg _ (by decide)
  have h1 : (((n % ((2 ^ 64 : Nat) : Int)).toNat % 2 ^ j : Nat) : Int) = n % 2 ^ j := by
    rw [Int.natCast_emod, Int.toNat_of_nonneg h0, Int.emod_emod_of_dvd n hd]; simp
  have h2 : ((n % ((2 ^ 64 : Nat) : Int)).toNat % 2 ^ j : Nat) < 2 ^ j := Nat.mod_lt _ (Nat.two_pow_pos j)
  have h3 : (2 : Nat) ^ j ≤ 2 ^ 20 := Nat.pow_le_pow_right (by decide) hj
  rw [h1]
  rw [← h1]
  generalize ((n % ((2 ^ 64 : Nat) : Int)).toNat % 2 ^ j : Nat) = q at *
  omega
theorem str_ext {s t : ByteArray} (h : s.data.toList = t.data.toList) : s = t := by
  obtain ⟨⟨a⟩⟩ := s
  obtain ⟨⟨b⟩⟩ := t
  simp at h
  rw [h]
theorem str_take (xs : List Int) (n : Nat) (h : n ≤ xs.length) (W : World) : (Instr.slice 9 (.string (strOfNums xs)) none (some (.int .i64 n)) none).run Try.prog W = .ok (.string (strOfNums (xs.take n))) W := by
  rw [run_slice_string_h W 9 _ Try.underlying9 .i64 n (by omega) (by rw [strOfNums_size]; omega)]
  congr 2
  apply str_ext
  rw [Lib.extract_data, strOfNums_data, strOfNums_data]
  simp
theorem str_drop (xs : List Int) (n : Nat) (h : n ≤ xs.length) (W : World) : (Instr.slice 9 (.string (strOfNums xs)) (some (.int .i64 n)) none none).run Try.prog W = .ok (.string (strOfNums (xs.drop n))) W := by
  rw [run_slice_string_l W 9 _ Try.underlying9 .i64 n (by omega) (by rw [strOfNums_size]; omega)]
  congr 2
  apply str_ext
  rw [Lib.extract_data, strOfNums_data, strOfNums_data, strOfNums_size]
  rw [List.take_of_length_le (by simp)]
  simp
theorem str_at (xs : List Int) (n : Nat) (h : n < xs.length) (hr : ∀ y ∈ xs, 0 ≤ y ∧ y ≤ 255) (W : World) : (Instr.index 9 (.string (strOfNums xs)) (.int .i64 n)).run Try.prog W = .ok (.int .u8 (xs.getD n 0)) W := by
  have hs := strOfNums_size xs
  rw [run_index_string W _ _ _ _ Try.underlying9, dif_pos (by omega)]
  congr 2
  have hb := hr (xs.getD n 0) (by simp [h])
  have : ((strOfNums xs)[((n : Int)).toNat]'(by omega)) = UInt8.ofNat (xs.getD n 0).toNat := by
    show (strOfNums xs).data[n]'_ = _
    simp [strOfNums, h]
  rw [this]
  generalize xs.getD n 0 = y at hb ⊢
  simp
  omega
theorem map_inj : (xs ys : List Int) → (∀ y ∈ xs, 0 ≤ y ∧ y ≤ 255) → (∀ y ∈ ys, 0 ≤ y ∧ y ≤ 255) → (xs.map fun n => UInt8.ofNat n.toNat) = (ys.map fun n => UInt8.ofNat n.toNat) → xs = ys
  | [], [], _, _, _ => rfl
  | [], _ :: _, _, _, h => by simp at h
  | _ :: _, [], _, _, h => by simp at h
  | x :: xs, y :: ys, hx, hy, h => by
    simp only [List.map_cons, List.cons.injEq] at h
    have h1 := hx x (by simp)
    have h2 := hy y (by simp)
    have e := congrArg UInt8.toNat h.1
    simp at e
    rw [map_inj xs ys (fun z hz => hx z (by simp [hz])) (fun z hz => hy z (by simp [hz])) h.2, show x = y by omega]
theorem str_eq (xs ys : List Int) (hx : ∀ y ∈ xs, 0 ≤ y ∧ y ≤ 255) (hy : ∀ y ∈ ys, 0 ≤ y ∧ y ≤ 255) : ((strOfNums xs).toList == (strOfNums ys).toList) = decide (xs = ys) := by
  rw [Lib.toList_data, Lib.toList_data, strOfNums_data, strOfNums_data, Bool.eq_iff_iff]
  simp only [beq_iff_eq, decide_eq_true_eq]
  exact ⟨map_inj xs ys hx hy, fun h => by rw [h]⟩
theorem str_lit (xs : List Int) (n : Nat) (i y : Int) (hi : i = (n : Int)) (hy : xs.getD n 0 = y) (h : n < xs.length) (hr : ∀ y ∈ xs, 0 ≤ y ∧ y ≤ 255) (W : World) : (Instr.index 9 (.string (strOfNums xs)) (.int .i64 i)).run Try.prog W = .ok (.int .u8 y) W := by
  subst hi hy; exact str_at xs n h hr W
theorem str_some (bs : List Int) (h : 1 ≤ bs.length) : (strOfNums bs).toList.isEmpty = false := by
  rw [Lib.toList_data, strOfNums_data]
  cases bs with
  | nil => simp at h
  | cons x r => rfl
theorem str_none : (strOfNums []).toList.isEmpty = true := by
  rw [Lib.toList_data, strOfNums_data]; rfl
theorem add_str (xs ys : List Int) (h : xs.length + ys.length ≤ 100000000000) (W : World) : (Op.stringOp .add (strOfNums xs) (strOfNums ys)).run Try.prog W = .ok (.string (strOfNums (xs ++ ys))) W := by
  rw [run_string_add_sum W _ _ (by rw [strOfNums_size, strOfNums_size]; omega)]
  congr 2
  apply str_ext
  simp [strOfNums]
theorem add_lit (b off n : Nat) : (⟨b, off, none⟩ : Addr).add n = ⟨b, off + n, none⟩ := by unfold Addr.add; split <;> simp_all
/-- Any string is that of its numbers. -/
def nums (s : ByteArray) : List Int := s.data.toList.map fun b => (b.toNat : Int)
theorem nums_len (s : ByteArray) : (nums s).length = s.size := by
  unfold nums; rw [List.length_map, Array.length_toList]; rfl
theorem nums_rng (s : ByteArray) : ∀ y ∈ nums s, 0 ≤ y ∧ y ≤ 255 := by
  intro y hy
  unfold nums at hy
  simp at hy
  obtain ⟨b, _, rfl⟩ := hy
  have := b.toNat_lt
  omega
theorem str_of (s : ByteArray) : s = strOfNums (nums s) := by
  apply str_ext
  rw [strOfNums_data]
  unfold nums
  rw [List.map_map]
  conv => lhs; rw [← List.map_id s.data.toList]
  apply List.map_congr_left
  intro b _
  simp
theorem cells_of (ts : List Int) (h : ∀ y ∈ ts, 0 ≤ y ∧ y ≤ 255) : Lib.strCells (strOfNums ts) = ts.map (Value.int .u8) := by
  unfold Lib.strCells
  rw [strOfNums_data, List.map_map]
  apply List.map_congr_left
  intro y hy
  have := h y hy
  simp
  omega
theorem rd_own2 {k : IntKind} {w : World} {B : Nat} {e : TypeId} {v : Value} {n : Nat} {xs : List Int} (h : w.ownsRow B e 1 v n (xs.map (Value.int k))) :
    ∃ a cap, v = .slice a n cap ∧ n ≤ cap ∧ cap ≤ 9223372036854775807 ∧ Rd k w a n xs ∧ (a = none → cap = 0) := by
  obtain ⟨a, cap, rfl, h1, h2, h3⟩ := rd_own h
  refine ⟨a, cap, rfl, h1, h2, h3, fun ha => ?_⟩
  subst ha
  rcases h.2 with ⟨hv, _⟩ | ⟨g, cap', cur, hv, _⟩
  · cases hv; rfl
  · cases hv
theorem u64_of_wf {a : Int} (h : (Lit.int .u64 a).wf = true) : 0 ≤ a ∧ a ≤ 18446744073709551615 := by
  simp [Lit.wf, IntKind.min, IntKind.max, IntKind.bits, IntKind.signed] at h
  omega
theorem u8_of_wf {a : Int} (h : (Lit.int .u8 a).wf = true) : 0 ≤ a ∧ a ≤ 255 := by
  simp [Lit.wf, IntKind.min, IntKind.max, IntKind.bits, IntKind.signed] at h
  omega
theorem i64_of_wf {a : Int} (h : (Lit.int .i64 a).wf = true) : -9223372036854775808 ≤ a ∧ a ≤ 9223372036854775807 := by
  simp [Lit.wf, IntKind.min, IntKind.max, IntKind.bits, IntKind.signed] at h
  omega
theorem rd_nil (k : IntKind) (w : World) : Rd k w none 0 [] := ⟨rfl, fun h => absurd h (by omega)⟩
theorem str_len (ts : List Int) : (strOfNums ts).size = ts.length := strOfNums_size ts
theorem str_cut (s : ByteArray) (len n : Nat) (c : Int) (hl : s.size = len) (h : (n : Int) = min (len : Int) c) (hc : 0 ≤ c) (W : World) : (Instr.slice 9 (.string s) none (some (.int .i64 n)) none).run Try.prog W = .ok (.string (strOfNums ((nums s).take n))) W := by
  conv => lhs; rw [str_of s]
  exact str_take (nums s) n (by rw [nums_len]; omega) W
theorem below_undrew {B : Nat} {w w' : World} (h : Below B w.drew w') : Below B w w' := ⟨h.os, h.tape, h.output, h.size, h.block⟩
theorem Rd.drew {k : IntKind} {w : World} {a : Option Addr} {n : Nat} {xs : List Int} (h : Rd k w a n xs) : Rd k w.drew a n xs := h.later (Below.refl _ _).drew
theorem rd_none {k : IntKind} {w : World} {a : Option Addr} {n : Nat} {xs : List Int} (h : Rd k w a n xs) : a = none → n = 0 := by
  intro ha
  rcases Nat.eq_zero_or_pos n with h0 | h0
  · exact h0
  · obtain ⟨b, off, hb, _⟩ := h.2 h0
    rw [ha] at hb; cases hb
end Go.Proofs.Ytcbnmahbdcjamaa
