/- In one text: BasS, BasR, ReaM, BasN, NfaM, NfaN, NfaO, NfaP, BasP. -/
import Derived.Test.YtpmmmgjiekikeaaDoorProg
import Derived.WalkKit
import Derived.WalkLawsBesides
import Derived.Carry
import Derived.Deep.AppendLies
import Derived.LoopN
import Derived.Laws.BytesArg
import Derived.Laws.AppendOwnNone
import Derived.Lib.Strings
import Derived.Lib.AppendStr
import Derived.Deep.RegionWith
import Derived.Deep.RegionLaw
import Derived.Deep.Trees
import Derived.Deep.DeepAppendWide
import Derived.Laws.Rows
import Derived.Lib.Builder
import Derived.Deep.DeepCutAuto
import Derived.BigQuiet
import Derived.Laws.ResultCell
import Derived.Laws.MakeOwn
import Derived.Deep.RegionHeld3
import Derived.Deep.Slices
import Derived.ChangeSame
import Derived.ChangeSlices
import GoSem.ClaimJoined
/- What serves every layer that has no rows of bytes: rows of numbers that can be read in memory, strings as rows of numbers; no function of the program is named here. -/
namespace Go.Proofs.YtpmmmgjiekikeaaDoor
open Go.RowKit
set_option linter.unusedVariables false

theorem ret_int {k : IntKind} {a b : Int} (h : a = b) : Ending.returned (.int k a) = .returned (.int k b) := by rw [h]
theorem ret_bool {a b : Bool} (h : a = b) : Ending.returned (.bool a) = .returned (.bool b) := by rw [h]
theorem news_pre {w : World} {B : Nat} {cs : Array Value} {t : TypeId} {fr : Nat × Nat} {news rest : List Value} (hb : w.heap[B]? = some (.cells cs t fr)) (hcs : cs.toList = news ++ rest) :
    ∀ j u, news[j]? = some u → w.cell? ((⟨B, 0, none⟩ : Addr).add j) = some u := fun j u hu =>
  World.news_of_block hb j u (by rw [hcs, List.getElem?_append_left (by rcases Nat.lt_or_ge j news.length with h | h <;> first | exact h | (simp [List.getElem?_eq_none h] at hu))]; exact hu)
def Rd (k : IntKind) (w : World) (a : Option Addr) (len : Nat) (xs : List Int) : Prop :=
  xs.length = len ∧ (0 < len → ∃ b off, a = some ⟨b, off, none⟩ ∧ ∀ i, i < len → w.cell? ⟨b, off + i, none⟩ = some (.int k (xs.getD i 0)))
theorem Rd.later {k : IntKind} {w w' : World} {a : Option Addr} {len : Nat} {xs : List Int} (h : Rd k w a len xs) (hb : Below w.heap.size w w') : Rd k w' a len xs := by
  refine ⟨h.1, fun hp => ?_⟩
  obtain ⟨b, off, ha, hc⟩ := h.2 hp
  refine ⟨b, off, ha, fun i hi => ?_⟩
  exact (hb.cell (p := ⟨b, off + i, none⟩) (World.block_lt_of_cell? w _ (hc i hi))).trans (hc i hi)
def slen : Value → Nat
  | .slice _ n _ => n
  | _ => 0
theorem Rd.take {k : IntKind} {w : World} {a : Option Addr} {len : Nat} {xs : List Int} (h : Rd k w a len xs) (n : Nat) (hn : n ≤ len) : Rd k w a n (xs.take n) := by
  refine ⟨by have := h.1; simp; omega, fun hp => ?_⟩
  obtain ⟨b, off, ha, hc⟩ := h.2 (by omega)
  refine ⟨b, off, ha, fun i hi => ?_⟩
  rw [hc i (by omega)]
  simp [hi]
theorem rd_own {k : IntKind} {w : World} {B : Nat} {e : TypeId} {v : Value} {n : Nat} {xs : List Int} (h : w.ownsRow B e 1 v n (xs.map (Value.int k))) :
    ∃ a cap, v = .slice a n cap ∧ n ≤ cap ∧ cap ≤ 9223372036854775807 ∧ Rd k w a n xs := by
  have hl : xs.length = n := by simpa using h.1
  rcases h.2 with ⟨rfl, rfl⟩ | ⟨g, cap, cur, rfl, hb, hg, hn, hm, hs, ht⟩
  · exact ⟨none, 0, rfl, by omega, by omega, hl, fun hp => absurd hp (by omega)⟩
  · refine ⟨_, cap, rfl, hn, by simpa [maxLen] using hm, hl, fun hp => ⟨g, 0, rfl, fun i hi => ?_⟩⟩
    rw [cell_of_row w g (0 + i) cur e (0, 0) hg]
    have h1 : (cur.toList.take (n * 1))[i]? = (xs.map (Value.int k))[i]? := by rw [ht]
    rw [List.getElem?_take, if_pos (by omega)] at h1
    simp at h1 ⊢
    rw [h1]
    simp [show i < xs.length by omega]
theorem rd_two (k : IntKind) (w : World) (x y : Int) (t : TypeId) (H : Nat) (hH : w.heap.size = H) : Rd k (w.alloc (.cells #[.int k x, .int k y] t)) (some ⟨H, 0, none⟩) 2 [x, y] := by
  subst hH
  refine ⟨rfl, fun _ => ⟨w.heap.size, 0, rfl, fun i hi => ?_⟩⟩
  rw [cell_of_row _ w.heap.size (0 + i) _ _ _ (heap_alloc_new w _)]
  rcases (by omega : i = 0 ∨ i = 1) with rfl | rfl <;> rfl
theorem rd_one (k : IntKind) (w : World) (x : Int) (t : TypeId) (H : Nat) (hH : w.heap.size = H) : Rd k (w.alloc (.cells #[.int k x] t)) (some ⟨H, 0, none⟩) 1 [x] := by
  subst hH
  refine ⟨rfl, fun _ => ⟨w.heap.size, 0, rfl, fun i hi => ?_⟩⟩
  rw [cell_of_row _ w.heap.size (0 + i) _ _ _ (heap_alloc_new w _)]
  obtain rfl : i = 0 := by omega
  rfl
theorem rd_block (w : World) (xs : List Int) (cs : Array Value) (t : TypeId) (hcs : cs.toList = xs.map (Value.int .u8)) (H : Nat) (hH : w.heap.size = H) (n : Nat) (hn : xs.length = n) : Rd .u8 (w.alloc (.cells cs t)) (some ⟨H, 0, none⟩) n xs := by
  subst hH
  refine ⟨hn, fun _ => ⟨w.heap.size, 0, rfl, fun i hi => ?_⟩⟩
  rw [cell_of_row _ w.heap.size (0 + i) _ _ _ (heap_alloc_new w _)]
  have : cs[0 + i]? = (xs.map (Value.int .u8))[i]? := by rw [← hcs]; simp
  rw [this]
  simp [show i < xs.length by omega]
theorem add_zero (a : Option Addr) (c : Nat) : (if c = 0 then a else a.map (·.add 0)) = a := by
  split
  · rfl
  · cases a with
    | none => rfl
    | some x => cases x; simp [Addr.add]
theorem min_run (len n : Nat) (c : Int) (h : (n : Int) = min (len : Int) c) (W : World) : (Builtin.min_ #[3, 3] 3 #[.int .i64 len, .int .i64 c]).run Tryd.prog W = .ok (.int .i64 n) W := by
  rw [run_min_int2, h]
  congr 2
  split <;> omega
theorem rd_row {k : IntKind} {w : World} {a : Option Addr} {len cap : Nat} {zs : List Int}
    (h : (a = none ∧ len = 0 ∧ cap = 0 ∧ zs = []) ∨ ∃ x, a = some x ∧ len ≤ cap ∧ cap ≤ maxLen ∧ zs.length = cap ∧ (∀ i, i < zs.length → w.cell? (x.add i) = some (.int k (zs.getD i 0))) ∧ ∀ n ∈ zs, (Lit.int k n).wf = true) :
    len ≤ cap ∧ cap ≤ 9223372036854775807 ∧ (∀ n, n ≤ len → Rd k w a n (zs.take n)) ∧ ∀ n ∈ zs, (Lit.int k n).wf = true := by
  rcases h with ⟨rfl, rfl, rfl, rfl⟩ | ⟨x, rfl, h1, h2, h3, h4, h5⟩
  · exact ⟨by omega, by omega, fun n hn => ⟨by simp; omega, fun hp => absurd hp (by omega)⟩, by simp⟩
  · refine ⟨h1, by simpa [maxLen] using h2, fun n hn => ⟨by simp; omega, fun hp => ?_⟩, h5⟩
    obtain ⟨b, off, spot⟩ := x
    have h40 := h4 0 (by omega)
    have hspot : spot = none := by simpa [Addr.add] using World.cell?_spot h40
    subst hspot
    refine ⟨b, off, rfl, fun i hi => ?_⟩
    have := h4 i (by omega)
    have e : (⟨b, off, none⟩ : Addr).add i = ⟨b, off + i, none⟩ := by unfold Addr.add; split <;> simp_all
    rw [e] at this
    rw [this]
    simp [hi]
theorem rd_row_none {k : IntKind} {w : World} {a : Option Addr} {len cap : Nat} {zs : List Int}
    (h : (a = none ∧ len = 0 ∧ cap = 0 ∧ zs = []) ∨ ∃ x, a = some x ∧ len ≤ cap ∧ cap ≤ maxLen ∧ zs.length = cap ∧ (∀ i, i < zs.length → w.cell? (x.add i) = some (.int k (zs.getD i 0))) ∧ ∀ n ∈ zs, (Lit.int k n).wf = true) : a = none → cap = 0 := by
  rcases h with ⟨rfl, rfl, rfl, rfl⟩ | ⟨x, rfl, _⟩
  · intro _; rfl
  · intro h; cases h
theorem bytes_of_wf {zs : List Int} (h : ∀ n ∈ zs, (Lit.int .u8 n).wf = true) (k : Nat) : ∀ y ∈ zs.take k, 0 ≤ y ∧ y ≤ 255 := by
  intro y hy
  have := h y (List.mem_of_mem_take hy)
  simp [Lit.wf, IntKind.min, IntKind.max, IntKind.bits, IntKind.signed] at this
  omega
theorem rd_news {k : IntKind} {w : World} {x : Addr} {m : Nat} {ns : List Int} (h : Rd k w (some x) m ns) : ∀ (j : Nat) (u : Value), (ns.map (Value.int k))[j]? = some u → w.cell? (x.add j) = some u := by
  intro j u hu
  have hj : j < ns.length := by
    rcases Nat.lt_or_ge j ns.length with h | h
    · exact h
    · simp [List.getElem?_eq_none h] at hu
  obtain ⟨b, off, hx, hc⟩ := h.2 (by have := h.1; omega)
  cases hx
  have e : (⟨b, off, none⟩ : Addr).add j = ⟨b, off + j, none⟩ := by unfold Addr.add; split <;> simp_all
  rw [e, hc j (by have := h.1; omega)]
  simp [hj] at hu
  simp [hj, hu]
theorem wpList_append_rd {P : Program} {w : World} {ops : Array Oper} {rest : List Oper} {o : Oper} {a : Act} {Q : Exit → Act → World → Prop} (hgd : o.guard = none) (s x : Operand) (t : TypeId)
    (ho : o.op = .call { callee := .builtin .append, args := #[s, x], argTypes := #[t, t] })
    (base : Nat) (e : TypeId) (i : TypeInfo) (z : Value) (bytes : Nat) (ht : P.underlying t = some (.slice e)) (hi : P.info? e = some i) (hz : i.zero = some z)
    (hsize : i.size = 1) (hby : i.bytes = bytes) (hzs : z.cells.size = 1)
    (v : Value) (n : Nat) (xs : List Value) (hs : a.eval s = v) (hown : w.ownsRow base e 1 v n xs)
    (ad : Option Addr) (m c : Nat) (k : IntKind) (ns : List Int) (hx : a.eval x = .slice ad m c) (hrd : Rd k w ad m ns) (hnone : ad = none → c = 0)
    (h63 : n + m ≤ maxLen) (hbytes : (n + m) * bytes ≤ 140737488355328) (hbase : base ≤ w.heap.size)
    (h : ∀ v' w', w'.ownsRow base e 1 v' (n + m) (xs ++ ns.map (Value.int k)) → w.grownBy w' v.ownBlock → wpList P ops Q rest (a.put o.dst v') w') : wpList P ops Q (o :: rest) a w := by
  cases ad with
  | none =>
    have hm : m = 0 := by
      rcases Nat.eq_zero_or_pos m with h0 | h0
      · exact h0
      · obtain ⟨b, off, hx, _⟩ := hrd.2 h0; cases hx
    subst hm
    have hn : ns = [] := by have := hrd.1; cases ns with
      | nil => rfl
      | cons _ _ => simp at this
    subst hn
    rw [hnone rfl] at hx
    exact wpList_append_own_none hgd s x t ho base e i 1 ht hi v n xs hs hown hx (h v w (by simpa using hown) ⟨rfl, rfl, rfl, Nat.le_refl _, fun _ _ _ => rfl⟩)
  | some x' =>
    exact wpList_append_own _ hgd s x t ho base e i z 1 bytes ht hi hz hsize hby hzs (by decide) v n xs hs hown x' m c (ns.map (Value.int k)) hx (by simpa using hrd.1) (rd_news hrd) (by simp [Value.oneCell']) h63 hbytes hbase
      (fun v' w' h1 h2 _ => h v' w' h1 h2)
theorem own_none {w : World} (B : Nat) (e : TypeId) (hB : B ≤ w.heap.size) (H : Nat) (hH : w.heap.size = H) : (w.alloc (.cells #[] e)).ownsRow B e 1 (.slice (some ⟨H, 0, none⟩) 0 0) 0 [] := by
  subst hH; exact World.ownsRow_made w #[] 0 hB (by simp [maxLen]) rfl
theorem own_later {w w' : World} {B : Nat} {e : TypeId} {v : Value} {n : Nat} {xs : List Value} (h : w.ownsRow B e 1 v n xs) (hb : Below w.heap.size w w') : w'.ownsRow B e 1 v n xs :=
  h.kept (row := none) ⟨hb.os, hb.tape, hb.output, hb.size, fun k hk _ => hb.block k hk⟩ (Classical.em _)
theorem own_form {w : World} {B : Nat} {e : TypeId} {v : Value} {n : Nat} {xs : List Value} (h : w.ownsRow B e 1 v n xs) : ∃ a cap, v = .slice a n cap ∧ n ≤ cap ∧ cap ≤ 9223372036854775807 ∧ (0 < n → ∃ g, a = some ⟨g, 0, none⟩ ∧ B ≤ g ∧ g < w.heap.size) := by
  rcases h.2 with ⟨rfl, rfl⟩ | ⟨g, cap, cur, rfl, hb, hg, hn, hm, _⟩
  · exact ⟨none, 0, rfl, by omega, by omega, fun h => absurd h (by omega)⟩
  · exact ⟨_, cap, rfl, hn, by simpa [maxLen] using hm, fun _ => ⟨g, rfl, hb, (Array.getElem?_eq_some_iff.1 hg).1⟩⟩
theorem below_own {w w1 : World} {o : Obj} {v : Value} {n : Nat} {xs : List Value} {e : TypeId} (hown : (w.alloc o).ownsRow w.heap.size e 1 v n xs) (h : (w.alloc o).grownBy w1 v.ownBlock) : Below w.heap.size w w1 :=
  ((Below.refl _ w).alloc (Nat.le_refl _) o).grown h (by simp) (fun k hk => (hown.lt k hk).1)
theorem and_low (n m : Int) (j : Nat) (hj : j ≤ 20) (hm : (BitVec.ofInt 64 m).toNat = 2 ^ j - 1) : bits .and .i64 n m = n % 2 ^ j := by
  have key : (BitVec.ofInt 64 n &&& BitVec.ofInt 64 m).toNat = (n % ((2 ^ 64 : Nat) : Int)).toNat % 2 ^ j := by
    rw [BitVec.toNat_and, BitVec.toNat_ofInt, hm, Nat.and_two_pow_sub_one_eq_mod]
  show IntKind.i64.wrap ((BitVec.ofInt 64 n &&& BitVec.ofInt 64 m).toNat : Nat) = n % 2 ^ j
  rw [key, IntKind.wrap_i64]
  have hd : ((2 ^ j : Nat) : Int) ∣ ((2 ^ 64 : Nat) : Int) := by
    have : (2 ^ j : Nat) ∣ (2 ^ 64 : Nat) := Nat.pow_dvd_pow 2 (by omega)
    exact_mod_cast this
  have h0 : 0 ≤ n % ((2 ^ 64 : Nat) : Int) := Int.emod_nonneg _ (by decide)
  have h1 : (((n % ((2 ^ 64 : Nat) : Int)).toNat % 2 ^ j : Nat) : Int) = n % 2 ^ j := by
    rw [Int.natCast_emod, Int.toNat_of_nonneg h0, Int.emod_emod_of_dvd n hd]; simp
  have h2 : ((n % ((2 ^ 64 : Nat) : Int)).toNat % 2 ^ j : Nat) < 2 ^ j := Nat.mod_lt _ (Nat.two_pow_pos j)
  have h3 : (2 : Nat) ^ j ≤ 2 ^ 20 := Nat.pow_le_pow_right (by decide) hj
  rw [h1]
  rw [← h1]
  generalize ((n % ((2 ^ 64 : Nat) : Int)).toNat % 2 ^ j : Nat) = q at *
  omega
theorem str_ext {s t : ByteArray} (h : s.data.toList = t.data.toList) : s = t := by
  obtain ⟨⟨a⟩⟩ := s
  obtain ⟨⟨b⟩⟩ := t
  simp at h
  rw [h]
theorem str_take (xs : List Int) (n : Nat) (h : n ≤ xs.length) (W : World) : (Instr.slice 9 (.string (strOfNums xs)) none (some (.int .i64 n)) none).run Tryd.prog W = .ok (.string (strOfNums (xs.take n))) W := by
  rw [run_slice_string_h W 9 _ Tryd.underlying9 .i64 n (by omega) (by rw [strOfNums_size]; omega)]
  congr 2
  apply str_ext
  rw [Lib.extract_data, strOfNums_data, strOfNums_data]
  simp
theorem str_drop (xs : List Int) (n : Nat) (h : n ≤ xs.length) (W : World) : (Instr.slice 9 (.string (strOfNums xs)) (some (.int .i64 n)) none none).run Tryd.prog W = .ok (.string (strOfNums (xs.drop n))) W := by
  rw [run_slice_string_l W 9 _ Tryd.underlying9 .i64 n (by omega) (by rw [strOfNums_size]; omega)]
  congr 2
  apply str_ext
  rw [Lib.extract_data, strOfNums_data, strOfNums_data, strOfNums_size]
  rw [List.take_of_length_le (by simp)]
  simp
theorem str_at (xs : List Int) (n : Nat) (h : n < xs.length) (hr : ∀ y ∈ xs, 0 ≤ y ∧ y ≤ 255) (W : World) : (Instr.index 9 (.string (strOfNums xs)) (.int .i64 n)).run Tryd.prog W = .ok (.int .u8 (xs.getD n 0)) W := by
  have hs := strOfNums_size xs
  rw [run_index_string W _ _ _ _ Tryd.underlying9, dif_pos (by omega)]
  congr 2
  have hb := hr (xs.getD n 0) (by simp [h])
  have : ((strOfNums xs)[((n : Int)).toNat]'(by omega)) = UInt8.ofNat (xs.getD n 0).toNat := by
    show (strOfNums xs).data[n]'_ = _
    simp [strOfNums, h]
  rw [this]
  generalize xs.getD n 0 = y at hb ⊢
  simp
  omega
theorem map_inj : (xs ys : List Int) → (∀ y ∈ xs, 0 ≤ y ∧ y ≤ 255) → (∀ y ∈ ys, 0 ≤ y ∧ y ≤ 255) → (xs.map fun n => UInt8.ofNat n.toNat) = (ys.map fun n => UInt8.ofNat n.toNat) → xs = ys
  | [], [], _, _, _ => rfl
  | [], _ :: _, _, _, h => by simp at h
  | _ :: _, [], _, _, h => by simp at h
  | x :: xs, y :: ys, hx, hy, h => by
    simp only [List.map_cons, List.cons.injEq] at h
    have h1 := hx x (by simp)
    have h2 := hy y (by simp)
    have e := congrArg UInt8.toNat h.1
    simp at e
    rw [map_inj xs ys (fun z hz => hx z (by simp [hz])) (fun z hz => hy z (by simp [hz])) h.2, show x = y by omega]
theorem str_eq (xs ys : List Int) (hx : ∀ y ∈ xs, 0 ≤ y ∧ y ≤ 255) (hy : ∀ y ∈ ys, 0 ≤ y ∧ y ≤ 255) : ((strOfNums xs).toList == (strOfNums ys).toList) = decide (xs = ys) := by
  rw [Lib.toList_data, Lib.toList_data, strOfNums_data, strOfNums_data, Bool.eq_iff_iff]
  simp only [beq_iff_eq, decide_eq_true_eq]
  exact ⟨map_inj xs ys hx hy, fun h => by rw [h]⟩
theorem str_lit (xs : List Int) (n : Nat) (i y : Int) (hi : i = (n : Int)) (hy : xs.getD n 0 = y) (h : n < xs.length) (hr : ∀ y ∈ xs, 0 ≤ y ∧ y ≤ 255) (W : World) : (Instr.index 9 (.string (strOfNums xs)) (.int .i64 i)).run Tryd.prog W = .ok (.int .u8 y) W := by
  subst hi hy; exact str_at xs n h hr W
theorem str_some (bs : List Int) (h : 1 ≤ bs.length) : (strOfNums bs).toList.isEmpty = false := by
  rw [Lib.toList_data, strOfNums_data]
  cases bs with
  | nil => simp at h
  | cons x r => rfl
theorem str_none : (strOfNums []).toList.isEmpty = true := by
  rw [Lib.toList_data, strOfNums_data]; rfl
theorem add_str (xs ys : List Int) (h : xs.length + ys.length ≤ 100000000000) (W : World) : (Op.stringOp .add (strOfNums xs) (strOfNums ys)).run Tryd.prog W = .ok (.string (strOfNums (xs ++ ys))) W := by
  rw [run_string_add_sum W _ _ (by rw [strOfNums_size, strOfNums_size]; omega)]
  congr 2
  apply str_ext
  simp [strOfNums]
theorem add_lit (b off n : Nat) : (⟨b, off, none⟩ : Addr).add n = ⟨b, off + n, none⟩ := by unfold Addr.add; split <;> simp_all
/-- Any string is that of its numbers. -/
def nums (s : ByteArray) : List Int := s.data.toList.map fun b => (b.toNat : Int)
theorem nums_len (s : ByteArray) : (nums s).length = s.size := by
  unfold nums; rw [List.length_map, Array.length_toList]; rfl
theorem nums_rng (s : ByteArray) : ∀ y ∈ nums s, 0 ≤ y ∧ y ≤ 255 := by
  intro y hy
  unfold nums at hy
  simp at hy
  obtain ⟨b, _, rfl⟩ := hy
  have := b.toNat_lt
  omega
theorem str_of (s : ByteArray) : s = strOfNums (nums s) := by
  apply str_ext
  rw [strOfNums_data]
  unfold nums
  rw [List.map_map]
  conv => lhs; rw [← List.map_id s.data.toList]
  apply List.map_congr_left
  intro b _
  simp
theorem cells_of (ts : List Int) (h : ∀ y ∈ ts, 0 ≤ y ∧ y ≤ 255) : Lib.strCells (strOfNums ts) = ts.map (Value.int .u8) := by
  unfold Lib.strCells
  rw [strOfNums_data, List.map_map]
  apply List.map_congr_left
  intro y hy
  have := h y hy
  simp
  omega
theorem rd_own2 {k : IntKind} {w : World} {B : Nat} {e : TypeId} {v : Value} {n : Nat} {xs : List Int} (h : w.ownsRow B e 1 v n (xs.map (Value.int k))) :
    ∃ a cap, v = .slice a n cap ∧ n ≤ cap ∧ cap ≤ 9223372036854775807 ∧ Rd k w a n xs ∧ (a = none → cap = 0) := by
  obtain ⟨a, cap, rfl, h1, h2, h3⟩ := rd_own h
  refine ⟨a, cap, rfl, h1, h2, h3, fun ha => ?_⟩
  subst ha
  rcases h.2 with ⟨hv, _⟩ | ⟨g, cap', cur, hv, _⟩
  · cases hv; rfl
  · cases hv
theorem u64_of_wf {a : Int} (h : (Lit.int .u64 a).wf = true) : 0 ≤ a ∧ a ≤ 18446744073709551615 := by
  simp [Lit.wf, IntKind.min, IntKind.max, IntKind.bits, IntKind.signed] at h
  omega
theorem u8_of_wf {a : Int} (h : (Lit.int .u8 a).wf = true) : 0 ≤ a ∧ a ≤ 255 := by
  simp [Lit.wf, IntKind.min, IntKind.max, IntKind.bits, IntKind.signed] at h
  omega
theorem i64_of_wf {a : Int} (h : (Lit.int .i64 a).wf = true) : -9223372036854775808 ≤ a ∧ a ≤ 9223372036854775807 := by
  simp [Lit.wf, IntKind.min, IntKind.max, IntKind.bits, IntKind.signed] at h
  omega
theorem rd_nil (k : IntKind) (w : World) : Rd k w none 0 [] := ⟨rfl, fun h => absurd h (by omega)⟩
theorem str_len (ts : List Int) : (strOfNums ts).size = ts.length := strOfNums_size ts
theorem str_cut (s : ByteArray) (len n : Nat) (c : Int) (hl : s.size = len) (h : (n : Int) = min (len : Int) c) (hc : 0 ≤ c) (W : World) : (Instr.slice 9 (.string s) none (some (.int .i64 n)) none).run Tryd.prog W = .ok (.string (strOfNums ((nums s).take n))) W := by
  conv => lhs; rw [str_of s]
  exact str_take (nums s) n (by rw [nums_len]; omega) W
theorem below_undrew {B : Nat} {w w' : World} (h : Below B w.drew w') : Below B w w' := ⟨h.os, h.tape, h.output, h.size, h.block⟩
theorem Rd.drew {k : IntKind} {w : World} {a : Option Addr} {n : Nat} {xs : List Int} (h : Rd k w a n xs) : Rd k w.drew a n xs := h.later (Below.refl _ _).drew
theorem rd_none {k : IntKind} {w : World} {a : Option Addr} {n : Nat} {xs : List Int} (h : Rd k w a n xs) : a = none → n = 0 := by
  intro ha
  rcases Nat.eq_zero_or_pos n with h0 | h0
  · exact h0
  · obtain ⟨b, off, hb, _⟩ := h.2 h0
    rw [ha] at hb; cases hb
end Go.Proofs.YtpmmmgjiekikeaaDoor

/- What serves regions that draw their order and hold an append: the append as one step, whatever the source; rows of the call's own under a lower base. -/
namespace Go.Proofs.YtpmmmgjiekikeaaDoor
open Go.RowKit
set_option linter.unusedVariables false

/-- A slice that can be read: nothing, or cells. -/
def SrcAt (w : World) (ad : Option Addr) (m c size : Nat) (news : List Value) : Prop :=
  news.length = m * size ∧ (ad = none → m = 0 ∧ c = 0) ∧ (∀ a, ad = some a → ∀ j u, news[j]? = some u → w.cell? (a.add j) = some u) ∧ ∀ u ∈ news, u.oneCell' = true
theorem step_append_src {P : Program} {ops : Array Oper} {o : Oper} {a : Act} {w : World} {K : Act → World → Prop} {Q : Exit → Act → World → Prop} {E : Prop}
    (hg : o.guard = none) (s x : Operand) (t : TypeId) (hop : o.op = Op.call { callee := Callee.builtin Builtin.append, args := #[s, x], argTypes := #[t, t] })
    (base : Nat) (e : TypeId) (i : TypeInfo) (z : Value) (size bytes : Nat) (h1 : P.underlying t = some (.slice e)) (h2 : P.info? e = some i) (h3 : i.zero = some z) (h4 : i.size = size) (h5 : i.bytes = bytes) (h6 : z.cells.size = size) (h7 : 0 < size)
    (v : Value) (n : Nat) (xs : List Value) (hs : a.eval s = v) (hown : w.ownsRow base e size v n xs)
    (ad : Option Addr) (m c : Nat) (news : List Value) (hx : a.eval x = .slice ad m c) (hsrc : SrcAt w ad m c size news)
    (b1 : n + m ≤ maxLen) (b2 : (n + m) * bytes ≤ 140737488355328) (hb : base ≤ w.heap.size)
    (hK : ∀ v' w', w'.ownsRow base e size v' (n + m) (xs ++ news) → w.grownBy w' v.ownBlock → K (a.put o.dst v') w') :
    if Region.wanted o (yielded ops a.tmps) = true then Oper.wp P o a w K Q else E := by
  have hw : Region.wanted o (yielded ops a.tmps) = true := by simp [Region.wanted, hg]
  rw [if_pos hw]
  obtain ⟨s1, s2, s3, s4⟩ := hsrc
  cases ad with
  | some b =>
    obtain ⟨v', w', hrun, r1, r2, _⟩ := run_append_own (P := P) w base t o.type e i z size bytes h1 h2 h3 h4 h5 h6 h7 v n xs hown b m c news s1 (s3 b rfl) s4 b1 b2 hb
    unfold Oper.wp
    simp [execOp, hop, resolve, invoke, builtin, hs, hx, hrun, Result.andThen]
    exact hK v' w' r1 r2
  | none =>
    obtain ⟨rfl, rfl⟩ := s2 rfl
    obtain rfl : news = [] := List.eq_nil_of_length_eq_zero (by simpa using s1)
    have hrun := run_append_owned_none (P := P) (w := w) base t o.type e i size h1 h2 v n xs hown
    unfold Oper.wp
    simp [execOp, hop, resolve, invoke, builtin, hs, hx, hrun, Result.andThen]
    exact hK v w (by simpa using hown) ⟨rfl, rfl, rfl, Nat.le_refl _, fun _ _ _ => rfl⟩
theorem own_base {w : World} {B B' : Nat} {e : TypeId} {size : Nat} {v : Value} {n : Nat} {xs : List Value} (h : w.ownsRow B e size v n xs) (hb : B' ≤ B) : w.ownsRow B' e size v n xs := by
  refine ⟨h.1, ?_⟩
  rcases h.2 with h | ⟨g, cap, cur, h1, h2, h3⟩
  · exact .inl h
  · exact .inr ⟨g, cap, cur, h1, Nat.le_trans hb h2, h3⟩
theorem own_alloc {w : World} {B : Nat} {e : TypeId} {size : Nat} {v : Value} {n : Nat} {xs : List Value} (h : w.ownsRow B e size v n xs) (o : Obj) : (w.alloc o).ownsRow B e size v n xs :=
  h.kept (row := none) ⟨rfl, rfl, rfl, by simp, fun j hj _ => by rw [Below.heap_alloc _ _ _ hj]⟩ (Classical.em _)
/-- A row of the call's own is a source. -/
theorem src_own {w : World} {B : Nat} {e : TypeId} {size n : Nat} {v : Value} {xs : List Value} (h : w.ownsRow B e size v n xs) (h1 : ∀ u ∈ xs, u.oneCell' = true) : ∃ ad c, v = .slice ad n c ∧ SrcAt w ad n c size xs := by
  rcases h.2 with ⟨rfl, hn⟩ | ⟨g, cap, cur, rfl, hb, hg, hn, hm, hs, ht⟩
  · refine ⟨none, 0, by rw [hn], h.1, fun _ => ⟨hn, rfl⟩, (fun a ha => by cases ha), h1⟩
  · refine ⟨_, cap, rfl, h.1, (fun h => by cases h), fun a ha j u hu => ?_, h1⟩
    cases ha
    rw [add_lit, Nat.zero_add, cell_of_row w g j _ _ _ hg]
    rw [← ht, List.getElem?_take] at hu
    split at hu
    · simpa using hu
    · cases hu
end Go.Proofs.YtpmmmgjiekikeaaDoor

/- Plain mathematics of reading: expressions, what a marked expression tells along a text, where rules fit; nothing of the program is named here. -/
namespace Go.Proofs.YtpmmmgjiekikeaaDoor
set_option linter.unusedVariables false

/-- Expressions, one behind the other: each has its kind and its classes, its parts, and those behind it (the library's trees; their addresses are not looked at). -/
abbrev Fo := Go.Deep.BT (Int × List Int)
/-- An expression. -/
structure Nd where
  op : Int
  cl : List Int
  kids : Fo
def toL : Fo → List Nd
  | .nil => []
  | .node _ _ a k r => ⟨a.1, a.2, k⟩ :: toL r
def ofL : List Nd → Fo
  | [] => .nil
  | n :: r => .node 0 0 (n.op, n.cl) n.kids (ofL r)
theorem toL_ofL : (l : List Nd) → toL (ofL l) = l
  | [] => rfl
  | n :: r => by simp [ofL, toL, toL_ofL r]
/-- How deep the deepest is. -/
def deepF : Fo → Nat
  | .nil => 0
  | .node _ _ _ k r => max (deepF k + 1) (deepF r)
def Nd.deep (n : Nd) : Nat := deepF n.kids + 1
theorem deep_mem : (f : Fo) → (n : Nd) → n ∈ toL f → n.deep ≤ deepF f
  | .nil, n, h => by simp [toL] at h
  | .node _ _ a k r, n, h => by
    simp only [toL, List.mem_cons] at h
    simp only [deepF]
    rcases h with rfl | h
    · simp only [Nd.deep]; omega
    · have := deep_mem r n h; omega

/-- What was read, the newest ahead: the class, and whether one began ahead of it. -/
abbrev Hist := List (Int × Bool)
/-- What an expression tells: whether it fits nothing, and whether it ends behind what was read. -/
abbrev Dn := Bool × (Hist → Bool)
def setE (cl : List Int) : Hist → Bool
  | [] => false
  | (c, b) :: _ => b && decide (c ∈ cl)
def nextH (e : Bool) (F : Hist → Bool) : Hist → Hist
  | [] => []
  | (c, b) :: h => (c, F h || (b && e)) :: nextH e F h
def starH (F : Hist → Bool) : Hist → Hist
  | [] => []
  | (c, b) :: h => (c, b || F (starH F h)) :: starH F h
def rowE (acc : Bool) : List Dn → Hist → Bool
  | [], _ => acc
  | k :: r, h => rowE (k.2 h || (acc && k.1)) r (nextH k.1 k.2 h)
def anyE (ks : List Dn) (h : Hist) : Bool := ks.any fun k => k.2 h
def nodeE (op : Int) (cl : List Int) (ks : List Dn) (h : Hist) : Bool :=
  if op = 1 then setE cl h else if op = 2 then rowE false ks h else if op = 3 ∨ op = 5 then anyE ks h else if op = 4 then anyE ks (starH (anyE ks) h) else false
def nodeM (op : Int) (ks : List Dn) : Bool :=
  if op = 0 then true else if op = 2 then ks.all (fun k => k.1) else if op = 3 then ks.any (fun k => k.1) else if op = 4 ∨ op = 5 then decide (ks.length = 1) else false
def den : Fo → List Dn
  | .nil => []
  | .node _ _ a k r => (nodeM a.1 (den k), nodeE a.1 a.2 (den k)) :: den r
def Nd.emp (n : Nd) : Bool := nodeM n.op (den n.kids)
def Nd.end (n : Nd) (h : Hist) : Bool := nodeE n.op n.cl (den n.kids) h
theorem den_map : (f : Fo) → den f = (toL f).map fun n => (n.emp, n.end)
  | .nil => rfl
  | .node _ _ a k r => by simp only [den, toL, List.map_cons, den_map r]; rfl
theorem den_len (f : Fo) : (den f).length = (toL f).length := by rw [den_map]; simp
/-- What the parts, each behind the other, have read. -/
def seqHs : List Dn → Hist → List Hist
  | [], _ => []
  | k :: r, h => h :: seqHs r (nextH k.1 k.2 h)
theorem seqHs_len : (ks : List Dn) → (h : Hist) → (seqHs ks h).length = ks.length
  | [], _ => rfl
  | k :: r, h => by simp [seqHs, seqHs_len r]
/-- What the parts of an expression have read. -/
def Nd.hs (n : Nd) (h : Hist) : List Hist :=
  if n.op = 2 then seqHs (den n.kids) h else List.replicate (toL n.kids).length (if n.op = 4 then starH (anyE (den n.kids)) h else h)
theorem Nd.hs_len (n : Nd) (h : Hist) : (n.hs h).length = (toL n.kids).length := by
  unfold Nd.hs; split
  · rw [seqHs_len, den_len]
  · simp
theorem end_nil_aux : (ks : List Dn) → (∀ k ∈ ks, k.2 [] = false) → rowE false ks [] = false
  | [], _ => rfl
  | k :: r, h => by
    have h1 := h k (by simp)
    simp only [rowE, h1, Bool.false_and, Bool.or_self]
    exact end_nil_aux r (fun x hx => h x (by simp [hx]))
theorem den_nil : (f : Fo) → ∀ k ∈ den f, k.2 [] = false
  | .nil, k, h => by simp [den] at h
  | .node _ _ a f r, k, h => by
    simp only [den, List.mem_cons] at h
    rcases h with rfl | h
    · have ih := den_nil f
      have ha : anyE (den f) [] = false := by
        unfold anyE; rw [List.any_eq_false]; intro x hx; rw [ih x hx]; simp
      show nodeE a.1 a.2 (den f) [] = false
      unfold nodeE
      split
      · rfl
      · split
        · exact end_nil_aux _ ih
        · split
          · exact ha
          · split
            · exact ha
            · rfl
    · exact den_nil r k h
theorem end_nil (n : Nd) : n.end [] = false := den_nil (.node 0 0 (n.op, n.cl) n.kids .nil) _ (by simp only [den, List.mem_cons]; exact .inl rfl)

/-- Turned round, if it is asked. -/
def revL (t : Bool) (l : List Nd) : List Nd := if t then l.reverse else l
/-- Do the parts count? -/
def cnt (op : Int) (k : Nat) : Bool := decide (op = 2 ∨ op = 3) || (decide (op = 4 ∨ op = 5) && decide (k = 1))
/-- Expressions with the parts that count, turned round if it is asked. -/
def nrm (t : Bool) : Fo → List Nd
  | .nil => []
  | .node _ _ a k r => ⟨a.1, a.2, ofL (if cnt a.1 (toL k).length then revL t (nrm t k) else [])⟩ :: nrm t r
def Nd.nrm (t : Bool) (n : Nd) : Nd := ⟨n.op, n.cl, ofL (if cnt n.op (toL n.kids).length then revL t (Go.Proofs.YtpmmmgjiekikeaaDoor.nrm t n.kids) else [])⟩
theorem nrm_map (t : Bool) : (f : Fo) → nrm t f = (toL f).map (Nd.nrm t)
  | .nil => rfl
  | .node _ _ a k r => by simp only [nrm, toL, List.map_cons, nrm_map t r]; rfl
/-- A text of which the newest is ahead, as it is read: from its first place, or from all. -/
def hsr (any : Bool) : List Int → Hist
  | [] => []
  | c :: r => (c, any || r.isEmpty) :: hsr any r
/-- Does it fit up to the end of what was read? -/
def endsAt (n : Nd) (any : Bool) (rev : List Int) : Bool := if rev.isEmpty then n.emp else n.end (hsr any rev) || (any && n.emp)
/-- Of each place whether it fits up to it. -/
def endsL (n : Nd) (any : Bool) (text : List Int) : List Bool := (List.range (text.length + 1)).map fun p => endsAt n any (text.take p).reverse
/-- A rule. -/
structure Rl where
  left : Nd
  right : Nd
  brk : Bool
  start : Bool
def Rl.fitL (r : Rl) (text : List Int) (p : Nat) : Bool := endsAt (r.left.nrm false) (!r.start) (text.take p).reverse
def Rl.fitR (r : Rl) (text : List Int) (p : Nat) : Bool := endsAt (r.right.nrm true) true (text.drop p)
/-- Does a rule fit at a place that there is? -/
def Rl.fit (r : Rl) (text : List Int) (p : Nat) : Bool := r.fitL text p && r.fitR text p
/-- The first one's place. -/
def firstI {α : Type} (q : α → Bool) : List α → Int
  | [] => -1
  | x :: r => if q x then 0 else if firstI q r = -1 then -1 else firstI q r + 1
def whichI (l : List Rl) (text : List Int) (p : Nat) : Int := firstI (fun r => r.fit text p) l
/-- What the first one that fits says; true, if none does. -/
def saysB (q : Rl → Bool) : List Rl → Bool
  | [] => true
  | r :: l => if q r then r.brk else saysB q l
def boundAt (l : List Rl) (text : List Int) (p : Nat) : Bool := if p = 0 ∨ p = text.length then decide (0 < text.length) else saysB (fun r => r.fit text p) l
def boundL (l : List Rl) (text : List Int) : List Bool := (List.range (text.length + 1)).map (boundAt l text)
end Go.Proofs.YtpmmmgjiekikeaaDoor

/- Expressions that come in, in memory and as arguments; rows of numbers that are searched and copied: what the layers from machines on take of it. -/
namespace Go.Proofs.YtpmmmgjiekikeaaDoor
open Go.ChangeShapes Go.WideShapes Go.RowKit
set_option linter.unusedVariables false
set_option linter.unusedSimpArgs false

def nilNd : Nd := ⟨0, [], .nil⟩
/-- A node in memory, no deeper than that; its classes lie below B. -/
def InV (B : Nat) (w : World) : Nat → Nd → List Value → Prop
  | 0, _, _ => False
  | d + 1, n, vs => ∃ ca cc pa pc, vs = [.int .i64 n.op, .slice ca n.cl.length cc, .slice pa (toL n.kids).length pc] ∧ Rd .i64 w ca n.cl.length n.cl ∧ (0 < n.cl.length → ∀ x, ca = some x → x.block < B) ∧ (n.cl.length ≤ 140737488355328 ∧ (ca = none → cc = 0)) ∧ (toL n.kids).length ≤ 2600000000000 ∧
      (0 < (toL n.kids).length → ∃ b off, pa = some ⟨b, off, none⟩ ∧ ∀ i (hi : i < (toL n.kids).length), ∃ us, InV B w d (toL n.kids)[i] us ∧ ∀ j v, us[j]? = some v → w.cell? ⟨b, off + i * 3 + j, none⟩ = some v)
theorem InV.later {B : Nat} {w w' : World} (hb : Below w.heap.size w w') : (d : Nat) → {n : Nd} → {vs : List Value} → InV B w d n vs → InV B w' d n vs
  | 0, _, _, h => h.elim
  | d + 1, n, vs, h => by
    obtain ⟨ca, cc, pa, pc, h1, h2, h3, h4, h5, h6⟩ := h
    refine ⟨ca, cc, pa, pc, h1, h2.later hb, h3, h4, h5, fun hp => ?_⟩
    obtain ⟨b, off, e, hk⟩ := h6 hp
    refine ⟨b, off, e, fun i hi => ?_⟩
    obtain ⟨us, k1, k2⟩ := hk i hi
    exact ⟨us, k1.later hb d, fun j v hv => (hb.cell (World.block_lt_of_cell? w _ (k2 j v hv))).trans (k2 j v hv)⟩
theorem InV.base {B B' : Nat} {w : World} (hB : B ≤ B') : (d : Nat) → {n : Nd} → {vs : List Value} → InV B w d n vs → InV B' w d n vs
  | 0, _, _, h => h.elim
  | d + 1, n, vs, h => by
    obtain ⟨ca, cc, pa, pc, h1, h2, h3, h4, h5, h6⟩ := h
    refine ⟨ca, cc, pa, pc, h1, h2, fun hp x hx => Nat.lt_of_lt_of_le (h3 hp x hx) hB, h4, h5, fun hp => ?_⟩
    obtain ⟨b, off, e, hk⟩ := h6 hp
    refine ⟨b, off, e, fun i hi => ?_⟩
    obtain ⟨us, k1, k2⟩ := hk i hi
    exact ⟨us, k1.base hB d, k2⟩
theorem InV.deep {B : Nat} {w : World} : (d : Nat) → {n : Nd} → {vs : List Value} → InV B w d n vs → InV B w (d + 1) n vs
  | 0, _, _, h => h.elim
  | d + 1, n, vs, h => by
    obtain ⟨ca, cc, pa, pc, h1, h2, h3, h4, h5, h6⟩ := h
    refine ⟨ca, cc, pa, pc, h1, h2, h3, h4, h5, fun hp => ?_⟩
    obtain ⟨b, off, e, hk⟩ := h6 hp
    refine ⟨b, off, e, fun i hi => ?_⟩
    obtain ⟨us, k1, k2⟩ := hk i hi
    exact ⟨us, k1.deep d, k2⟩
theorem InV.three {B : Nat} {w : World} : {d : Nat} → {n : Nd} → {us : List Value} → InV B w d n us → ∃ ca cc pa pc, us = [.int .i64 n.op, .slice ca n.cl.length cc, .slice pa (toL n.kids).length pc]
  | 0, _, _, h => h.elim
  | d + 1, n, us, h => by
    obtain ⟨ca, cc, pa, pc, h1, _⟩ := h
    exact ⟨ca, cc, pa, pc, h1⟩
theorem Rd.lt {k : IntKind} {w : World} {a : Option Addr} {len : Nat} {xs : List Int} (h : Rd k w a len xs) : 0 < len → ∀ y, a = some y → y.block < w.heap.size := by
  intro hp y hy
  obtain ⟨b, off, e, hc⟩ := h.2 hp
  rw [e] at hy
  cases hy
  exact World.block_lt_of_cell? w _ (hc 0 hp)
theorem InV.kid {B : Nat} {w : World} {d : Nat} {n : Nd} {ca pa : Option Addr} {cn cc kn pc : Nat} {op : Int} (h : InV B w d n [.int .i64 op, .slice ca cn cc, .slice pa kn pc]) (i : Nat) (hi : i < (toL n.kids).length) : ∃ b off x c y e d', pa = some ⟨b, off, none⟩ ∧ InV B w d' (toL n.kids)[i] [.int .i64 (toL n.kids)[i].op, .slice x (toL n.kids)[i].cl.length c, .slice y (toL (toL n.kids)[i].kids).length e] ∧ d' + 1 = d ∧
    w.cell? ⟨b, off + i * 3, none⟩ = some (.int .i64 (toL n.kids)[i].op) ∧ w.cell? ⟨b, off + i * 3 + 1, none⟩ = some (.slice x (toL n.kids)[i].cl.length c) ∧ w.cell? ⟨b, off + i * 3 + 2, none⟩ = some (.slice y (toL (toL n.kids)[i].kids).length e) := by
  cases d with
  | zero => exact h.elim
  | succ d =>
    obtain ⟨ca', cc', pa', pc', hv, _, _, _, _, h6⟩ := h
    simp only [List.cons.injEq, Value.slice.injEq] at hv
    obtain ⟨b, off, e, hk⟩ := h6 (by omega)
    obtain ⟨us, k1, k2⟩ := hk i hi
    obtain ⟨x, c, y, f, rfl⟩ := k1.three
    exact ⟨b, off, x, c, y, f, d, by rw [hv.2.2.1.1]; exact e, k1, rfl, k2 0 _ rfl, k2 1 _ rfl, k2 2 _ rfl⟩
theorem InV.bounds {B : Nat} {w : World} {d : Nat} {n : Nd} {vs : List Value} (h : InV B w d n vs) : (toL n.kids).length ≤ 2600000000000 := by
  cases d with
  | zero => exact h.elim
  | succ d => obtain ⟨_, _, _, _, _, _, _, _, h5, _⟩ := h; exact h5
theorem wrap_add2 (a b : Int) : IntKind.i64.wrap (IntKind.i64.wrap a + IntKind.i64.wrap b) = IntKind.i64.wrap (a + b) := by
  simp only [IntKind.wrap_i64]
  omega
theorem maxR (a b : Int) (W : World) : (Builtin.max_ #[3, 3] 3 #[.int .i64 a, .int .i64 b]).run Tryd.prog W = .ok (.int .i64 (max a b)) W := by
  rw [run_max_int2]
  congr 2
  split <;> omega
theorem InV.classes {B : Nat} {w : World} {d : Nat} {n : Nd} {ca pa : Option Addr} {cn cc kn pc : Nat} {op : Int} (h : InV B w d n [.int .i64 op, .slice ca cn cc, .slice pa kn pc]) : Rd .i64 w ca n.cl.length n.cl ∧ n.cl.length ≤ 140737488355328 := by
  cases d with
  | zero => exact h.elim
  | succ d =>
    obtain ⟨ca', cc', pa', pc', hv, h2, _, h4, _, _⟩ := h
    simp only [List.cons.injEq, Value.slice.injEq] at hv
    rw [hv.2.1.1]
    exact ⟨h2, h4.1⟩
theorem InV.nilc {B : Nat} {w : World} {d : Nat} {n : Nd} {ca pa : Option Addr} {cn cc kn pc : Nat} {op : Int} (h : InV B w d n [.int .i64 op, .slice ca cn cc, .slice pa kn pc]) : ca = none → cc = 0 := by
  cases d with
  | zero => exact h.elim
  | succ d =>
    obtain ⟨ca', cc', pa', pc', hv, _, _, h4, _, _⟩ := h
    simp only [List.cons.injEq, Value.slice.injEq] at hv
    rw [hv.2.1.1, hv.2.1.2.2]
    exact h4.2
theorem InV.leaf (w : World) (d : Nat) (op : Int) (cl : List Int) (ca : Option Addr) (cc : Nat) (h : Rd .i64 w ca cl.length cl) (hl : cl.length ≤ 140737488355328) (hn : ca = none → cc = 0) : InV w.heap.size w (d + 1) ⟨op, cl, .nil⟩ [.int .i64 op, .slice ca cl.length cc, .slice none 0 0] :=
  ⟨ca, cc, none, 0, rfl, h, h.lt, ⟨hl, hn⟩, by show (toL .nil).length ≤ _; simp [toL], fun hp => by simp [toL] at hp⟩
theorem upC {w w' : World} (hb : Below w.heap.size w w') {p : Addr} {v : Value} (h : w.cell? p = some v) : w'.cell? p = some v := (hb.cell (World.block_lt_of_cell? w _ h)).trans h
theorem InV.mono {B : Nat} {w : World} {d d' : Nat} (h : d ≤ d') {n : Nd} {vs : List Value} (hi : InV B w d n vs) : InV B w d' n vs := by
  induction d' with
  | zero => obtain rfl : d = 0 := by omega
            exact hi
  | succ e ih =>
    rcases Nat.lt_or_ge d (e + 1) with h1 | h1
    · exact (ih (by omega)).deep e
    · obtain rfl : d = e + 1 := by omega
      exact hi
/-- Numbers that come in. -/
theorem open_cls {H : Type} {enc : TypeId × Value → H} {W : World} {fuel : Nat} {cs : List Value} {x : DataW H × List MemPlace} (hf : DataW.trod enc Tryd.prog W 0 (fun _ => true) true fuel 35 cs = some x) (hw : (x.1.weights Tryd.prog 35).all (· ≤ reachBytes) = true) :
    ∃ a zs c, cs = [.slice a zs.length c] ∧ Rd .i64 W a zs.length zs ∧ zs.length ≤ 140737488355328 ∧ zs.length ≤ c ∧ c ≤ 9223372036854775807 ∧ (a = none → c = 0) := by
  rcases open_ints Tryd.underlying35 Tryd.underlying3 (by kernel_rfl) hf with ⟨hcs, _⟩ | ⟨x0, l, c, zs, hcs, _, hl, hm, hz, hx, hcell, hwz⟩
  · exact ⟨none, [], 0, hcs, rd_nil _ _, by simp, by simp, by omega, fun _ => rfl⟩
  · have hzl : zs.length = c := by simpa using hz
    have htl : (zs.take l).length = l := by simp; omega
    have hb : Tryd.prog.bytesOf 3 = 8 := by kernel_rfl
    rw [hx] at hw
    simp only [DataW.weights, Tryd.underlying35, List.all_cons, Bool.and_eq_true, decide_eq_true_eq] at hw
    have h1 := hw.1
    simp only [lits, List.length_map, List.length_take, List.length_drop, hb, reachBytes] at h1
    have hrow := rd_row (k := .i64) (w := W) (a := some x0) (len := l) (cap := c) (zs := zs) (.inr ⟨x0, rfl, hl, hm, hzl, hcell, hwz⟩)
    refine ⟨some x0, zs.take l, c, by rw [htl]; exact hcs, by rw [htl]; exact hrow.2.2.1 l (Nat.le_refl _), by rw [htl]; omega, by rw [htl]; exact hl, by simpa [maxLen] using hm, fun h => by cases h⟩
theorem w33 {H : Type} (d0 d1 d2 : DataW H) (h : ((DataW.agg [d0, d1, d2]).weights Tryd.prog 38).all (· ≤ reachBytes) = true) : (d1.weights Tryd.prog 35).all (· ≤ reachBytes) = true ∧ (d2.weights Tryd.prog 36).all (· ≤ reachBytes) = true := by
  simp only [DataW.weights, Tryd.underlying38, DataW.weightsEach, List.map_cons, List.map_nil, List.all_append, Bool.and_eq_true] at h
  exact ⟨h.2.1, h.2.2.1⟩
theorem wAll {H : Type} (t : TypeId) : (l : List (DataW H)) → (DataW.weightsAll Tryd.prog t l).all (· ≤ reachBytes) = true → ∀ d ∈ l, (d.weights Tryd.prog t).all (· ≤ reachBytes) = true
  | [], _, d, hd => by simp at hd
  | x :: r, h, d, hd => by
    simp only [DataW.weightsAll, List.all_append, Bool.and_eq_true] at h
    rcases List.mem_cons.1 hd with rfl | hd
    · exact h.1
    · exact wAll t r h.2 d hd
theorem open_node {H : Type} {enc : TypeId × Value → H} {W : World} (fuel : Nat) : ∀ {cs : List Value} {x : DataW H × List MemPlace}, DataW.trod enc Tryd.prog W 0 (fun _ => true) true fuel 38 cs = some x → (x.1.weights Tryd.prog 38).all (· ≤ reachBytes) = true → ∃ n, InV W.heap.size W fuel n cs := by
  induction fuel using Nat.strongRecOn with
  | _ fuel ih =>
    intro cs x hf hw
    haveI : Inhabited Nd := ⟨nilNd⟩
    obtain ⟨xs, k, rfl, hxy, hlen, hxl, hfl⟩ := DataW.trod_struct Tryd.underlying38 hf
    have ci : Tryd.prog.cellsOf 3 = 1 := by kernel_rfl
    have cl : Tryd.prog.cellsOf 35 = 1 := by kernel_rfl
    have cp : Tryd.prog.cellsOf 36 = 1 := by kernel_rfl
    have cn : Tryd.prog.cellsOf 38 = 3 := by kernel_rfl
    have bn : Tryd.prog.bytesOf 38 = 56 := by kernel_rfl
    rw [cn] at hlen
    have hx3 : xs.length = 3 := hxl
    obtain ⟨v0, v1, v2, rfl⟩ : ∃ v0 v1 v2, cs = [v0, v1, v2] := by
      rcases cs with _ | ⟨v0, _ | ⟨v1, _ | ⟨v2, _ | ⟨v3, r⟩⟩⟩⟩
      · simp at hlen
      · simp at hlen
      · simp at hlen
      · exact ⟨_, _, _, rfl⟩
      · simp at hlen
    obtain ⟨y0, y1, y2, rfl⟩ : ∃ y0 y1 y2, xs = [y0, y1, y2] := by
      rcases xs with _ | ⟨v0, _ | ⟨v1, _ | ⟨v2, _ | ⟨v3, r⟩⟩⟩⟩
      · simp at hx3
      · simp at hx3
      · simp at hx3
      · exact ⟨_, _, _, rfl⟩
      · simp at hx3
    have g0 := hfl 0 _ rfl
    have g1 := hfl 1 _ rfl
    have g2 := hfl 2 _ rfl
    simp [ci, cl, cp] at g0 g1 g2
    rw [hxy] at hw
    obtain ⟨hw1, hw2⟩ := w33 y0.1 y1.1 y2.1 hw
    obtain ⟨op, hop, _, _⟩ := DataW.trod_int Tryd.underlying3 g0
    obtain ⟨ca, zs, cc, hcs, hrd, hzl, _, _, hnc⟩ := open_cls g1 hw1
    simp at hop hcs
    subst hop hcs
    rcases DataW.trod_slice Tryd.underlying36 g2 with ⟨hcs, _⟩ | ⟨a, len, cap, elems, rest, n, hn, hcs, hyy, _, hl, hm, hel, hat, hsp, _⟩
    · simp at hcs
      subst hcs
      exact ⟨⟨op, zs, .nil⟩, ca, cc, none, 0, rfl, hrd, hrd.lt, ⟨hzl, hnc⟩, by simp [toL], fun hp => by simp [toL] at hp⟩
    · simp at hcs
      subst hcs
      rw [hyy] at hw2
      simp only [DataW.weights, Tryd.underlying36, List.all_cons, List.all_append, Bool.and_eq_true, decide_eq_true_eq, List.length_map, bn, reachBytes] at hw2
      obtain ⟨hw3, hw4, _⟩ := hw2
      have hw5 : (elems.length + rest.length) * 56 ≤ 140737488351232 := of_decide_eq_true hw3
      have each : ∀ i, i < len → ∃ m : Nd, ∃ us, InV W.heap.size W k m us ∧ us.length = 3 ∧ ∀ j, j < 3 → W.cell? (a.add (i * 3 + j)) = us[j]? := by
        intro i hi
        have h1 := hat i hi
        rw [List.getElem?_eq_getElem (by omega)] at h1
        obtain ⟨us, hus, htr⟩ := Option.bind_eq_some_iff.1 h1
        rw [cn] at hus
        obtain ⟨_, hul, hcell⟩ := World.cells?_some hus
        have hwi : ((elems[i]'(by omega)).1.weights Tryd.prog 38).all (· ≤ reachBytes) = true := wAll _ _ hw4 _ (List.mem_map.2 ⟨elems[i]'(by omega), List.getElem_mem _, rfl⟩)
        obtain ⟨m, hm2⟩ := ih n (by omega) htr hwi
        refine ⟨m, us, hm2.mono (by omega), hul, fun j hj => ?_⟩
        have := hcell j hj
        rw [Go.Deep.add_add] at this
        exact this
      obtain ⟨N, hN⟩ := Go.Deep.choose_lt each
      refine ⟨⟨op, zs, ofL ((List.range len).map N)⟩, ca, cc, some a, cap, ?_, hrd, hrd.lt, ⟨hzl, hnc⟩, ?_, fun hp => ?_⟩
      · show [Value.int .i64 op, .slice ca zs.length cc, .slice (some a) len cap] = [Value.int .i64 op, .slice ca zs.length cc, .slice (some a) (toL (ofL ((List.range len).map N))).length cap]
        rw [toL_ofL]
        simp
      · show (toL (ofL ((List.range len).map N))).length ≤ _
        rw [toL_ofL]
        simp
        omega
      · have hp' : 0 < len := by
          have h2 : 0 < (toL (ofL ((List.range len).map N))).length := hp
          rw [toL_ofL] at h2
          simpa using h2
        obtain ⟨b, off, rfl⟩ : ∃ b off, a = ⟨b, off, none⟩ := by
          obtain ⟨b, off, spot⟩ := a
          obtain ⟨us, _, hul, hc⟩ := hN 0 hp'
          have h30 := hc 0 (by omega)
          rw [List.getElem?_eq_getElem (by omega)] at h30
          have hs : spot = none := by simpa [Addr.add] using World.cell?_spot h30
          exact ⟨b, off, by rw [hs]⟩
        refine ⟨b, off, rfl, fun i hi => ?_⟩
        have hi' : i < len := by
          have h2 : i < (toL (ofL ((List.range len).map N))).length := hi
          rw [toL_ofL] at h2
          simpa using h2
        obtain ⟨us, hin, hul, hc⟩ := hN i hi'
        refine ⟨us, ?_, fun j v hv => ?_⟩
        · have e : (toL (ofL ((List.range len).map N)))[i]'hi = N i := by simp only [toL_ofL, List.getElem_map, List.getElem_range]
          show InV W.heap.size W k ((toL (ofL ((List.range len).map N)))[i]'hi) us
          rw [e]
          exact hin
        · have hj : j < 3 := by
            rcases Nat.lt_or_ge j 3 with h | h
            · exact h
            · rw [List.getElem?_eq_none (by omega)] at hv; cases hv
          have := hc j hj
          rw [add_lit, hv] at this
          rw [show off + i * 3 + j = off + (i * 3 + j) by omega]
          exact this
theorem grown_cell (w : World) (g i : Nat) (v : Value) : w.grownBy (w.setCell ⟨g, i, none⟩ v) (some g) :=
  ⟨rfl, rfl, rfl, by simp [World.setCell], fun k _ hk => Below.heap_setCell _ _ _ k (fun e => hk (by rw [e]))⟩
theorem grown_all {w w1 w2 : World} {row : Option Nat} (h : w.grownBy w1 row) (h2 : w1.grownBy w2 row) : w.grownBy w2 row :=
  ⟨h2.os.trans h.os, h2.tape.trans h.tape, h2.output.trans h.output, Nat.le_trans h.size h2.size, fun k hk hne => (h2.block k (Nat.lt_of_lt_of_le hk h.size) hne).trans (h.block k hk hne)⟩
theorem own_sl1 {w : World} {B : Nat} {e : TypeId} {s n : Nat} {v : Value} {xs : List Value} (h : w.ownsRow B e s v n xs) : ∃ a c, v = .slice a n c := by
  rcases h.2 with ⟨rfl, rfl⟩ | ⟨g, cap, cur, rfl, _⟩
  · exact ⟨none, 0, rfl⟩
  · exact ⟨_, _, rfl⟩
theorem own_cells1 {w : World} {B : Nat} {e : TypeId} {n : Nat} {a : Option Addr} {cap : Nat} {vs : List Value} (h : w.ownsRow B e 1 (.slice a n cap) n vs) (hn : 0 < n) : ∃ g, a = some ⟨g, 0, none⟩ ∧ B ≤ g ∧ ∃ cur, w.heap[g]? = some (.cells cur e (0, 0)) ∧ ∀ i, i < n → w.cell? ⟨g, i, none⟩ = vs[i]? := by
  rcases h.2 with ⟨hv, h0⟩ | ⟨g, cap', cur, hv, hb, hg, hnc, hm, hs, ht⟩
  · omega
  · cases hv
    refine ⟨g, rfl, hb, cur, hg, fun i hi => ?_⟩
    rw [cell_of_row w g i _ _ _ hg, ← ht, List.getElem?_take, if_pos (by omega)]
    simp
theorem own_set1 {w : World} {B : Nat} {e : TypeId} {n : Nat} {g cap : Nat} {vs : List Value} (h : w.ownsRow B e 1 (.slice (some ⟨g, 0, none⟩) n cap) n vs) (i : Nat) (u : Value) : (w.setCell ⟨g, i, none⟩ u).ownsRow B e 1 (.slice (some ⟨g, 0, none⟩) n cap) n (vs.set i u) := by
  refine ⟨by simpa using h.1, ?_⟩
  rcases h.2 with ⟨hv, h0⟩ | ⟨g', cap', cur, hv, hb, hg, hnc, hm, hs, ht⟩
  · cases hv
  · cases hv
    refine .inr ⟨g, cap, cur.setIfInBounds i u, rfl, hb, heap_setCell_same w g i cur e u hg, hnc, hm, by simpa using hs, ?_⟩
    rw [Array.toList_setIfInBounds, List.take_set, ht]
theorem own_later5 {w w' : World} {B : Nat} {e : TypeId} {s : Nat} {v : Value} {n : Nat} {xs : List Value} (h : w.ownsRow B e s v n xs) (hb : Below w.heap.size w w') : w'.ownsRow B e s v n xs :=
  h.kept (row := none) ⟨hb.os, hb.tape, hb.output, hb.size, fun k hk _ => hb.block k hk⟩ (Classical.em _)
theorem info_i : (Tryd.prog.info? 3).map (fun i => (i.zero, i.size, i.bytes)) = some (some (.int .i64 0), 1, 8) := by kernel_rfl
theorem info_b : (Tryd.prog.info? 4).map (fun i => (i.zero, i.size, i.bytes)) = some (some (.bool false), 1, 1) := by kernel_rfl
theorem results_cell_one {fn : Func} {p : Tmp} {ty : TypeId} (h : fn.results = #[.cell p ty]) (tmps : Array Value) (P : Program) (w : World) :
    (results fn tmps).run P w = ((asAddr (tmps.getD p undef)).run P w).andThen fun a w₁ => (loadVar ty a).run P w₁ := by
  simp only [results, h]
  simp [Sem.run_bind, Result.andThen]
theorem firstI_at {α : Type} (q : α → Bool) : (l : List α) → (k : Nat) → (hk : k < l.length) → (∀ j (hj : j < k), q (l[j]'(by omega)) = false) → q l[k] = true → firstI q l = k
  | [], k, hk, _, _ => by simp at hk
  | x :: r, 0, hk, _, h => by simp at h; simp [firstI, h]
  | x :: r, k + 1, hk, hb, h => by
    have h0 : q x = false := hb 0 (by omega)
    have ih := firstI_at q r k (by simpa using hk) (fun j hj => hb (j + 1) (by omega)) (by simpa using h)
    simp only [firstI, h0, ih]
    rw [if_neg (by simp), if_neg (by omega)]
    omega
theorem firstI_no {α : Type} (q : α → Bool) : (l : List α) → (∀ x ∈ l, q x = false) → firstI q l = -1
  | [], _ => rfl
  | x :: r, h => by
    have ih := firstI_no q r (fun y hy => h y (by simp [hy]))
    simp [firstI, h x (by simp), ih]
theorem firstI_cases {α : Type} (q : α → Bool) (l : List α) : (firstI q l = -1 ∧ l.any q = false) ∨ ∃ k : Nat, ∃ hk : k < l.length, firstI q l = k ∧ q l[k] = true ∧ l.any q = true := by
  induction l with
  | nil => exact .inl ⟨rfl, rfl⟩
  | cons x r ih =>
    cases hx : q x with
    | true => exact .inr ⟨0, by simp, by simp [firstI, hx], by simpa using hx, by simp [hx]⟩
    | false =>
      rcases ih with ⟨h1, h2⟩ | ⟨k, hk, h1, h2, h3⟩
      · exact .inl ⟨by simp [firstI, hx, h1], by simp [hx, h2]⟩
      · refine .inr ⟨k + 1, by simpa using hk, ?_, by simpa using h2, by simp [hx, h3]⟩
        simp only [firstI, hx, h1]
        rw [if_neg (by simp), if_neg (by omega)]
        omega
/-- Whether a number is among others. -/
theorem mem_any (c : Int) (xs : List Int) : xs.any (fun x => c == x) = decide (c ∈ xs) := by
  rw [Bool.eq_iff_iff]; simp
/-- A state's number, as it lies in memory. -/
def nI (t : Nat) : Value := .int .i64 (t : Int)
end Go.Proofs.YtpmmmgjiekikeaaDoor

/- Plain mathematics of machines: expressions as states with ways between them, and that a machine reads just what its expression fits; nothing of the program is named here. -/
namespace Go.Proofs.YtpmmmgjiekikeaaDoor
set_option linter.unusedVariables false
set_option linter.unusedSimpArgs false

/-- A state: does it read, which classes, and where it goes on. -/
structure St where
  reads : Bool
  cl : List Int
  next : List Nat
def St.ad (s : St) (t : List Nat) : St := ⟨s.reads, s.cl, s.next ++ t⟩
theorem St.ad_nil (s : St) : s.ad [] = s := by cases s; simp [St.ad]
theorem St.ad_ad (s : St) (t u : List Nat) : (s.ad t).ad u = s.ad (t ++ u) := by simp [St.ad]
def st0 : St := ⟨false, [], []⟩
def leadS (l : List St) (i j : Nat) : List St := l.modify i (fun s => s.ad [j])
def leads (l : List St) (es : List (Nat × Nat)) : List St := es.foldl (fun l e => leadS l e.1 e.2) l
/-- Where these ways lead from a state. -/
def outs (es : List (Nat × Nat)) (i : Nat) : List Nat := (es.filter (fun e => e.1 == i)).map (fun e => e.2)
theorem leadS_get (l : List St) (i j k : Nat) : (leadS l i j)[k]? = (l[k]?).map (fun s => s.ad (if i = k then [j] else [])) := by
  unfold leadS
  rw [List.getElem?_modify]
  cases l[k]? with
  | none => rfl
  | some s => by_cases h : i = k <;> simp [h, St.ad_nil]
theorem leads_get : (es : List (Nat × Nat)) → (l : List St) → (i : Nat) → (leads l es)[i]? = (l[i]?).map (fun s => s.ad (outs es i))
  | [], l, i => by
    cases h : l[i]? <;> simp [leads, outs, h, St.ad_nil]
  | e :: r, l, i => by
    have ih := leads_get r (leadS l e.1 e.2) i
    show (leads (leadS l e.1 e.2) r)[i]? = _
    rw [ih, leadS_get]
    cases h : l[i]? with
    | none => rfl
    | some s =>
      by_cases hi : e.1 = i
      · simp [outs, hi, St.ad_ad]
      · simp [outs, hi, St.ad_ad]
theorem leads_len : (es : List (Nat × Nat)) → (l : List St) → (leads l es).length = l.length
  | [], l => rfl
  | e :: r, l => by
    show (leads (leadS l e.1 e.2) r).length = _
    rw [leads_len r]; simp [leadS]
theorem leads_append (l : List St) (a b : List (Nat × Nat)) : leads l (a ++ b) = leads (leads l a) b := by simp [leads]
theorem outs_none (es : List (Nat × Nat)) (i : Nat) (h : ∀ e, e ∈ es → e.1 ≠ i) : outs es i = [] := by
  unfold outs
  rw [List.filter_eq_nil_iff.2 (fun e he => by simpa using h e he)]
  rfl
theorem outs_cons (e : Nat × Nat) (r : List (Nat × Nat)) (i : Nat) : outs (e :: r) i = (if e.1 = i then [e.2] else []) ++ outs r i := by
  unfold outs
  by_cases h : e.1 = i <;> simp [h]
theorem outs_append (a b : List (Nat × Nat)) (i : Nat) : outs (a ++ b) i = outs a i ++ outs b i := by simp [outs]
def rowEs : Nat → List (Nat × Nat) → List (Nat × Nat)
  | _, [] => []
  | a, p :: r => (a, p.1) :: rowEs p.2 r
def rowEnd : Nat → List (Nat × Nat) → Nat
  | a, [] => a
  | _, p :: r => rowEnd p.2 r
def forkEs (f e : Nat) (ps : List (Nat × Nat)) : List (Nat × Nat) := ps.flatMap fun p => [(f, p.1), (p.2, e)]
/-- What a node's states are, behind those of its parts. -/
def nodeP (op : Int) (cl : List Int) (ps : List (Nat × Nat)) (l : List St) : List St × (Nat × Nat) :=
  if op = 1 then (leads (l ++ [⟨true, cl, []⟩, st0]) [(l.length, l.length + 1)], (l.length, l.length + 1))
  else if op = 3 then (leads (l ++ [st0, st0]) (forkEs l.length (l.length + 1) ps), (l.length, l.length + 1))
  else if op = 4 then (leads (l ++ [st0]) [(l.length, (ps.headD (0, 0)).1), ((ps.headD (0, 0)).2, l.length)], (l.length, l.length))
  else if op = 5 then (leads (l ++ [st0, st0, st0]) (forkEs (l.length + 1) (l.length + 2) [ps.headD (0, 0), (l.length, l.length)]), (l.length + 1, l.length + 2))
  else (leads (l ++ [st0]) (rowEs l.length ps), (l.length, rowEnd l.length ps))
def piecesF : Fo → List St → List St × List (Nat × Nat)
  | .nil, l => (l, [])
  | .node _ _ a k r, l =>
    ((piecesF r (nodeP a.1 a.2 (piecesF k l).2 (piecesF k l).1).1).1, (nodeP a.1 a.2 (piecesF k l).2 (piecesF k l).1).2 :: (piecesF r (nodeP a.1 a.2 (piecesF k l).2 (piecesF k l).1).1).2)
def Nd.piece (n : Nd) (l : List St) : List St × (Nat × Nat) := nodeP n.op n.cl (piecesF n.kids l).2 (piecesF n.kids l).1

/-! What an expression fits. -/
def powL (k : List Int → Prop) : Nat → List Int → Prop
  | 0, w => w = []
  | n + 1, w => ∃ u v, w = u ++ v ∧ k u ∧ powL k n v
def seqL : List (List Int → Prop) → List Int → Prop
  | [], w => w = []
  | k :: r, w => ∃ u v, w = u ++ v ∧ k u ∧ seqL r v
def altL (ks : List (List Int → Prop)) (w : List Int) : Prop := ∃ k, k ∈ ks ∧ k w
def nodeL (op : Int) (cl : List Int) (ks : List (List Int → Prop)) (w : List Int) : Prop :=
  if op = 1 then ∃ c, c ∈ cl ∧ w = [c] else if op = 3 then altL ks w else if op = 4 then ∃ n, powL (ks.headD (fun _ => False)) n w else if op = 5 then w = [] ∨ ks.headD (fun _ => False) w else seqL ks w
def fitF : Fo → List (List Int → Prop)
  | .nil => []
  | .node _ _ a k r => nodeL a.1 a.2 (fitF k) :: fitF r
def Nd.fits (n : Nd) : List Int → Prop := nodeL n.op n.cl (fitF n.kids)
theorem fitF_map : (f : Fo) → fitF f = (toL f).map Nd.fits
  | .nil => rfl
  | .node _ _ a k r => by simp only [fitF, toL, List.map_cons, fitF_map r]; rfl

/-! What a machine reads. -/
def Acc (M : List St) (fin : Nat) : Nat → Nat → List Int → Prop
  | 0, _, _ => False
  | k + 1, q, w => (q = fin ∧ w = []) ∨ ∃ s, M[q]? = some s ∧ ((s.reads = false ∧ ∃ t, t ∈ s.next ∧ Acc M fin k t w) ∨ (s.reads = true ∧ ∃ c v, w = c :: v ∧ c ∈ s.cl ∧ ∃ t, t ∈ s.next ∧ Acc M fin k t v))
theorem Acc.up {M : List St} {fin : Nat} : (k : Nat) → {q : Nat} → {w : List Int} → Acc M fin k q w → Acc M fin (k + 1) q w
  | 0, _, _, h => h.elim
  | k + 1, q, w, h => by
    rcases h with h | ⟨s, hs, ⟨h1, t, h2, h3⟩ | ⟨h1, c, v, h2, h3, t, h4, h5⟩⟩
    · exact .inl h
    · exact .inr ⟨s, hs, .inl ⟨h1, t, h2, h3.up k⟩⟩
    · exact .inr ⟨s, hs, .inr ⟨h1, c, v, h2, h3, t, h4, h5.up k⟩⟩
/-- What is read behind a piece. -/
def Ex (M : List St) (fin j : Nat) (T : List Nat) (last : Nat) (v : List Int) : Prop := (last = fin ∧ v = []) ∨ ∃ t, t ∈ T ∧ Acc M fin j t v
theorem acc_quiet {M : List St} {fin k q : Nat} {T : List Nat} {v : List Int} (hM : M[q]? = some ⟨false, [], T⟩) (h : Acc M fin k q v) : ∃ j, j < k ∧ Ex M fin j T q v := by
  cases k with
  | zero => exact h.elim
  | succ k =>
    refine ⟨k, by omega, ?_⟩
    rcases h with h | ⟨s, hs, ⟨_, t, h2, h3⟩ | ⟨h1, _⟩⟩
    · exact .inl h
    · rw [hM] at hs; cases hs; exact .inr ⟨t, h2, h3⟩
    · rw [hM] at hs; cases hs; cases h1
theorem quiet_acc {M : List St} {fin j q : Nat} {T : List Nat} {v : List Int} (hM : M[q]? = some ⟨false, [], T⟩) (h : Ex M fin j T q v) : Acc M fin (j + 1) q v := by
  rcases h with h | ⟨t, h1, h2⟩
  · exact .inl h
  · exact .inr ⟨_, hM, .inl ⟨rfl, t, h1, h2⟩⟩
/-- A piece reads what its expression fits, and then what follows it. -/
def POk (M : List St) (fin : Nat) (L : List Int → Prop) (p : Nat × Nat) (T : List Nat) : Prop :=
  (∀ k w, Acc M fin k p.1 w → ∃ j u v, j < k ∧ w = u ++ v ∧ L u ∧ Ex M fin j T p.2 v) ∧ (∀ j u v, L u → Ex M fin j T p.2 v → ∃ k, Acc M fin k p.1 (u ++ v))
theorem pok_reader {M : List St} {fin n : Nat} {cl : List Int} {T : List Nat} (h1 : M[n]? = some ⟨true, cl, [n + 1]⟩) (h2 : M[n + 1]? = some ⟨false, [], T⟩) (hn : n ≠ fin) : POk M fin (fun w => ∃ c, c ∈ cl ∧ w = [c]) (n, n + 1) T := by
  refine ⟨fun k w h => ?_, fun j u v hu he => ?_⟩
  · cases k with
    | zero => exact h.elim
    | succ k =>
      rcases h with h | ⟨s, hs, ⟨h3, _⟩ | ⟨_, c, v, hw, hc, t, ht, ha⟩⟩
      · exact absurd h.1 hn
      · rw [h1] at hs; cases hs; cases h3
      · rw [h1] at hs
        cases hs
        obtain rfl : t = n + 1 := by simpa using ht
        obtain ⟨j, hj, he⟩ := acc_quiet h2 ha
        exact ⟨j, [c], v, by omega, by simpa using hw, ⟨c, hc, rfl⟩, he⟩
  · obtain ⟨c, hc, rfl⟩ := hu
    exact ⟨j + 1 + 1, .inr ⟨_, h1, .inr ⟨rfl, c, v, rfl, hc, n + 1, by simp, quiet_acc h2 he⟩⟩⟩
theorem pok_fork {M : List St} {fin f e : Nat} {T : List Nat} {ps : List (Nat × Nat)} {ks : List (List Int → Prop)} (hl : ks.length = ps.length) (h1 : M[f]? = some ⟨false, [], ps.map (fun p => p.1)⟩) (h2 : M[e]? = some ⟨false, [], T⟩) (hf : f ≠ fin)
    (hp : ∀ i (hi : i < ps.length), POk M fin (ks[i]'(by omega)) ps[i] [e] ∧ ps[i].2 ≠ fin) : POk M fin (altL ks) (f, e) T := by
  refine ⟨fun k w h => ?_, fun j u v hu he => ?_⟩
  · obtain ⟨k', hk', h⟩ := acc_quiet h1 h
    rcases h with h | ⟨t, ht, ha⟩
    · exact absurd h.1 hf
    · obtain ⟨p, hpm, rfl⟩ := List.mem_map.1 ht
      obtain ⟨i, hi, rfl⟩ := List.mem_iff_getElem.1 hpm
      obtain ⟨⟨hr, _⟩, hne⟩ := hp i hi
      obtain ⟨j, u, v, hj, hw, hu, he⟩ := hr _ _ ha
      rcases he with he | ⟨t, ht2, ha2⟩
      · exact absurd he.1 hne
      · obtain rfl : t = e := by simpa using ht2
        obtain ⟨j', hj', he'⟩ := acc_quiet h2 ha2
        exact ⟨j', u, v, by omega, hw, ⟨_, List.getElem_mem (by omega), hu⟩, he'⟩
  · obtain ⟨k, hk, hku⟩ := hu
    obtain ⟨i, hi, rfl⟩ := List.mem_iff_getElem.1 hk
    obtain ⟨⟨_, hl2⟩, hne⟩ := hp i (by omega)
    obtain ⟨k, ha⟩ := hl2 (j + 1) u v hku (.inr ⟨e, by simp, quiet_acc h2 he⟩)
    exact ⟨k + 1, quiet_acc h1 (.inr ⟨_, List.mem_map.2 ⟨_, List.getElem_mem (by omega), rfl⟩, ha⟩)⟩
theorem pok_loop {M : List St} {fin n : Nat} {T : List Nat} {q : Nat × Nat} {K : List Int → Prop} (h1 : M[n]? = some ⟨false, [], [q.1] ++ T⟩) (hq : POk M fin K q [n]) (hne : q.2 ≠ fin) : POk M fin (fun w => ∃ i, powL K i w) (n, n) T := by
  refine ⟨?_, fun j u v hu he => ?_⟩
  · intro k
    induction k using Nat.strongRecOn with
    | _ k ih =>
      intro w h
      obtain ⟨k', hk', h⟩ := acc_quiet h1 h
      rcases h with h | ⟨t, ht, ha⟩
      · exact ⟨k', [], w, hk', rfl, ⟨0, rfl⟩, .inl h⟩
      · rcases List.mem_append.1 ht with ht | ht
        · obtain rfl : t = q.1 := by simpa using ht
          obtain ⟨j, u, v, hj, rfl, hu, he⟩ := hq.1 _ _ ha
          rcases he with he | ⟨t, ht2, ha2⟩
          · exact absurd he.1 hne
          · obtain rfl : t = n := by simpa using ht2
            obtain ⟨j', u', v', hj', rfl, ⟨i, hi⟩, he'⟩ := ih j (by omega) v ha2
            exact ⟨j', u ++ u', v', by omega, by simp, ⟨i + 1, u, u', rfl, hu, hi⟩, he'⟩
        · exact ⟨k', [], w, hk', rfl, ⟨0, rfl⟩, .inr ⟨t, ht, ha⟩⟩
  · obtain ⟨i, hi⟩ := hu
    revert u
    induction i with
    | zero =>
      intro u hu
      obtain rfl : u = [] := hu
      refine ⟨j + 1, quiet_acc h1 ?_⟩
      rcases he with he | ⟨t, ht, ha⟩
      · exact .inl he
      · exact .inr ⟨t, List.mem_append.2 (.inr ht), ha⟩
    | succ i ih =>
      rintro u ⟨u1, u2, rfl, hu1, hu2⟩
      obtain ⟨k, hk⟩ := ih u2 hu2
      obtain ⟨k', hk'⟩ := hq.2 k u1 (u2 ++ v) hu1 (.inr ⟨n, by simp, hk⟩)
      refine ⟨k' + 1, quiet_acc h1 (.inr ⟨q.1, by simp, ?_⟩)⟩
      rw [List.append_assoc]
      exact hk'
/-- Pieces that follow one another: where each leads. -/
def RowH (M : List St) (fin : Nat) (T : List Nat) (E : Nat → List Nat) : Nat → List (Nat × Nat) → List (List Int → Prop) → Prop
  | a, [], [] => E a = T
  | a, p :: r, k :: ks => E a = [p.1] ∧ a ≠ fin ∧ POk M fin k p (E p.2) ∧ RowH M fin T E p.2 r ks
  | _, _, _ => False
theorem row_to {M : List St} {fin : Nat} {T : List Nat} {E : Nat → List Nat} : (ps : List (Nat × Nat)) → (ks : List (List Int → Prop)) → (a : Nat) → RowH M fin T E a ps ks → ∀ k w, Ex M fin k (E a) a w → ∃ j u v, j ≤ k ∧ w = u ++ v ∧ seqL ks u ∧ Ex M fin j T (rowEnd a ps) v
  | [], [], a, h, k, w, he => by
    have h' : E a = T := h
    rw [h'] at he
    exact ⟨k, [], w, Nat.le_refl _, rfl, rfl, he⟩
  | p :: r, c :: ks, a, h, k, w, he => by
    obtain ⟨h1, h2, h3, h4⟩ := h
    rw [h1] at he
    rcases he with he | ⟨t, ht, ha⟩
    · exact absurd he.1 h2
    · obtain rfl : t = p.1 := by simpa using ht
      obtain ⟨j, u, v, hj, rfl, hu, he⟩ := h3.1 _ _ ha
      obtain ⟨j', u', v', hj', rfl, hu', he'⟩ := row_to r ks p.2 h4 j v he
      exact ⟨j', u ++ u', v', by omega, by simp, ⟨u, u', rfl, hu, hu'⟩, he'⟩
  | [], _ :: _, _, h, _, _, _ => h.elim
  | _ :: _, [], _, h, _, _, _ => h.elim
theorem row_from {M : List St} {fin : Nat} {T : List Nat} {E : Nat → List Nat} : (ps : List (Nat × Nat)) → (ks : List (List Int → Prop)) → (a : Nat) → RowH M fin T E a ps ks → ∀ j u v, seqL ks u → Ex M fin j T (rowEnd a ps) v → ∃ k, Ex M fin k (E a) a (u ++ v)
  | [], [], a, h, j, u, v, hu, he => by
    have h' : E a = T := h
    obtain rfl : u = [] := hu
    rw [h']
    exact ⟨j, he⟩
  | p :: r, c :: ks, a, h, j, u, v, hu, he => by
    obtain ⟨h1, h2, h3, h4⟩ := h
    obtain ⟨u1, u2, rfl, hu1, hu2⟩ := hu
    obtain ⟨k, hk⟩ := row_from r ks p.2 h4 j u2 v hu2 he
    obtain ⟨k', hk'⟩ := h3.2 k u1 (u2 ++ v) hu1 hk
    rw [h1, List.append_assoc]
    exact ⟨k', .inr ⟨p.1, by simp, hk'⟩⟩
  | [], _ :: _, _, h, _, _, _, _, _ => h.elim
  | _ :: _, [], _, h, _, _, _, _, _ => h.elim
theorem pok_row {M : List St} {fin n : Nat} {T : List Nat} {E : Nat → List Nat} {ps : List (Nat × Nat)} {ks : List (List Int → Prop)} (h1 : M[n]? = some ⟨false, [], E n⟩) (h : RowH M fin T E n ps ks) : POk M fin (seqL ks) (n, rowEnd n ps) T := by
  refine ⟨fun k w ha => ?_, fun j u v hu he => ?_⟩
  · obtain ⟨k', hk', he⟩ := acc_quiet h1 ha
    obtain ⟨j, u, v, hj, hw, hu, hx⟩ := row_to ps ks n h k' w he
    exact ⟨j, u, v, by omega, hw, hu, hx⟩
  · obtain ⟨k, hk⟩ := row_from ps ks n h j u v hu he
    exact ⟨k + 1, quiet_acc h1 hk⟩
theorem rowEs_from : (ps : List (Nat × Nat)) → (a : Nat) → ∀ e, e ∈ rowEs a ps → e.1 = a ∨ e.1 ∈ ps.map (fun p => p.2)
  | [], _, e, h => by simp [rowEs] at h
  | p :: r, a, e, h => by
    simp only [rowEs, List.mem_cons] at h
    rcases h with rfl | h
    · exact .inl rfl
    · rcases rowEs_from r p.2 e h with h | h
      · exact .inr (by simp [h])
      · exact .inr (by simp only [List.map_cons, List.mem_cons]; exact .inr h)
theorem rowEnd_mem : (ps : List (Nat × Nat)) → (a : Nat) → rowEnd a ps = a ∨ rowEnd a ps ∈ ps.map (fun p => p.2)
  | [], _ => .inl rfl
  | p :: r, a => by
    rcases rowEnd_mem r p.2 with h | h
    · exact .inr (by simp [rowEnd, h])
    · exact .inr (by simp only [rowEnd, List.map_cons, List.mem_cons]; exact .inr h)
theorem rowEnd_ne : (ps : List (Nat × Nat)) → (a : Nat) → (a :: ps.map (fun p => p.2)).Nodup → ps ≠ [] → rowEnd a ps ≠ a
  | [], _, _, h => absurd rfl h
  | p :: r, a, hd, _ => by
    intro h
    simp only [List.map_cons, List.nodup_cons] at hd
    rcases rowEnd_mem r p.2 with e | e
    · exact hd.1 (by rw [← h]; simp [rowEnd, e])
    · exact hd.1 (by rw [← h]; simp only [rowEnd, List.mem_cons]; exact .inr e)
theorem rowH_of {M : List St} {fin : Nat} {ext E : Nat → List Nat} : (ps : List (Nat × Nat)) → (ks : List (List Int → Prop)) → (a : Nat) → ks.length = ps.length → (a :: ps.map (fun p => p.2)).Nodup →
    (∀ i, i = a ∨ i ∈ ps.map (fun p => p.2) → E i = outs (rowEs a ps) i ++ ext i) → (∀ i, i = a ∨ i ∈ ps.map (fun p => p.2) → i ≠ rowEnd a ps → ext i = [] ∧ i ≠ fin) → (∀ i (hi : i < ps.length) (hk : i < ks.length), POk M fin ks[i] ps[i] (E ps[i].2)) → RowH M fin (ext (rowEnd a ps)) E a ps ks
  | [], [], a, _, _, hE, _, _ => by
    have := hE a (.inl rfl)
    show E a = ext a
    simpa [rowEs, outs] using this
  | p :: r, k :: ks, a, hl, hd, hE, hx, hp => by
    have hd2 := hd
    simp only [List.map_cons, List.nodup_cons, List.mem_cons, not_or] at hd
    have hn := rowEnd_ne (p :: r) a hd2 (by simp)
    obtain ⟨ha1, ha2⟩ := hx a (.inl rfl) (Ne.symm hn)
    have ho : outs (rowEs p.2 r) a = [] := outs_none _ _ (fun e he h => by
      rcases rowEs_from r p.2 e he with h1 | h1
      · exact hd.1.1 (by rw [← h, h1])
      · exact hd.1.2 (by rw [← h]; exact h1))
    refine ⟨?_, ha2, hp 0 (by simp) (by simp), ?_⟩
    · rw [hE a (.inl rfl), ha1]
      simp [rowEs, outs_cons, ho]
    · refine rowH_of (M := M) (fin := fin) (ext := ext) r ks p.2 (by simpa using hl) (by simp only [List.nodup_cons]; exact hd.2) (fun i hi => ?_) (fun i hi hne => ?_) (fun i hi hk => ?_)
      · have hi' : i ∈ (p :: r).map (fun p => p.2) := by
          simp only [List.map_cons, List.mem_cons]
          exact hi
        have hia : a ≠ i := fun h => by
          rcases hi with hi | hi
          · exact hd.1.1 (h.trans hi)
          · exact hd.1.2 (by rw [h]; exact hi)
        rw [hE i (.inr hi')]
        simp [rowEs, outs_cons, hia]
      · refine hx i (.inr ?_) hne
        simp only [List.map_cons, List.mem_cons]
        exact hi
      · have := hp (i + 1) (by simpa using hi) (by simpa using hk)
        simpa using this
  | [], _ :: _, _, hl, _, _, _, _ => by simp at hl
  | _ :: _, [], _, hl, _, _, _, _ => by simp at hl
theorem forkEs_from (f e : Nat) (ps : List (Nat × Nat)) : ∀ x, x ∈ forkEs f e ps → x.1 = f ∨ x.1 ∈ ps.map (fun p => p.2) := by
  intro x hx
  unfold forkEs at hx
  obtain ⟨p, hp, hx⟩ := List.mem_flatMap.1 hx
  simp at hx
  rcases hx with rfl | rfl
  · exact .inl rfl
  · exact .inr (List.mem_map.2 ⟨p, hp, rfl⟩)
theorem forkEs_first (f e : Nat) : (ps : List (Nat × Nat)) → f ∉ ps.map (fun p => p.2) → outs (forkEs f e ps) f = ps.map (fun p => p.1)
  | [], _ => rfl
  | p :: r, h => by
    simp only [List.map_cons, List.mem_cons, not_or] at h
    show outs ((f, p.1) :: (p.2, e) :: forkEs f e r) f = _
    rw [outs_cons, outs_cons, forkEs_first f e r h.2]
    simp [Ne.symm h.1]
theorem forkEs_last (f e : Nat) : (ps : List (Nat × Nat)) → (ps.map (fun p => p.2)).Nodup → f ∉ ps.map (fun p => p.2) → ∀ i (hi : i < ps.length), outs (forkEs f e ps) ps[i].2 = [e]
  | [], _, _, i, hi => by simp at hi
  | p :: r, hd, hf, i, hi => by
    simp only [List.map_cons, List.nodup_cons, List.mem_cons, not_or] at hd hf
    show outs ((f, p.1) :: (p.2, e) :: forkEs f e r) _ = _
    rw [outs_cons, outs_cons]
    cases i with
    | zero =>
      have h0 : outs (forkEs f e r) p.2 = [] := outs_none _ _ (fun x hx h => by
        rcases forkEs_from f e r x hx with h1 | h1
        · exact hf.1 (by rw [← h1, h])
        · exact hd.1 (by rw [← h]; exact h1))
      simp [hf.1, h0]
    | succ i =>
      have hir : i < r.length := by simpa using hi
      have hm : r[i].2 ∈ r.map (fun p => p.2) := List.mem_map.2 ⟨_, List.getElem_mem (by simpa using hi), rfl⟩
      have h1 : f ≠ r[i].2 := fun h => hf.2 (by rw [h]; exact hm)
      have h2 : p.2 ≠ r[i].2 := fun h => hd.1 (by rw [h]; exact hm)
      simp only [List.getElem_cons_succ]
      rw [forkEs_last f e r hd.2 hf.2 i (by simpa using hi)]
      simp [h1, h2]
end Go.Proofs.YtpmmmgjiekikeaaDoor

/- Plain mathematics of machines: the machine of an expression reads just what that fits; what all machines keep to; nothing of the program is named here. -/
namespace Go.Proofs.YtpmmmgjiekikeaaDoor
set_option linter.unusedVariables false
set_option linter.unusedSimpArgs false

def newS (op : Int) (cl : List Int) : List St := if op = 1 then [⟨true, cl, []⟩, st0] else if op = 3 then [st0, st0] else if op = 4 then [st0] else if op = 5 then [st0, st0, st0] else [st0]
def newE (op : Int) (ps : List (Nat × Nat)) (n : Nat) : List (Nat × Nat) := if op = 1 then [(n, n + 1)] else if op = 3 then forkEs n (n + 1) ps else if op = 4 then [(n, (ps.headD (0, 0)).1), ((ps.headD (0, 0)).2, n)] else if op = 5 then forkEs (n + 1) (n + 2) [ps.headD (0, 0), (n, n)] else rowEs n ps
def newP (op : Int) (ps : List (Nat × Nat)) (n : Nat) : Nat × Nat := if op = 1 then (n, n + 1) else if op = 3 then (n, n + 1) else if op = 4 then (n, n) else if op = 5 then (n + 1, n + 2) else (n, rowEnd n ps)
theorem nodeP_eq (op : Int) (cl : List Int) (ps : List (Nat × Nat)) (l : List St) : nodeP op cl ps l = (leads (l ++ newS op cl) (newE op ps l.length), newP op ps l.length) := by
  unfold nodeP newS newE newP
  by_cases h1 : op = 1
  · simp only [if_pos h1]
  · simp only [if_neg h1]
    by_cases h3 : op = 3
    · simp only [if_pos h3]
    · simp only [if_neg h3]
      by_cases h4 : op = 4
      · simp only [if_pos h4]
      · simp only [if_neg h4]
        by_cases h5 : op = 5
        · simp only [if_pos h5]
        · simp only [if_neg h5]
/-- Pieces that lie between two places. -/
def PsIn (lo hi : Nat) (ps : List (Nat × Nat)) : Prop := (∀ p, p ∈ ps → lo ≤ p.1 ∧ p.1 < hi ∧ lo ≤ p.2 ∧ p.2 < hi) ∧ (ps.map (fun p => p.2)).Nodup
theorem PsIn.last {lo hi : Nat} {ps : List (Nat × Nat)} (h : PsIn lo hi ps) {i : Nat} (hm : i ∈ ps.map (fun p => p.2)) : lo ≤ i ∧ i < hi := by
  obtain ⟨p, hp, rfl⟩ := List.mem_map.1 hm
  exact (h.1 p hp).2.2
theorem one_of {α : Type} {l : List α} (h : l.length = 1) : ∃ q, l = [q] := by
  match l, h with
  | [q], _ => exact ⟨q, rfl⟩
theorem newS_len (op : Int) (cl : List Int) : 1 ≤ (newS op cl).length ∧ (newS op cl).length ≤ 3 := by
  unfold newS
  split
  · simp
  · split
    · simp
    · split
      · simp
      · split <;> simp
theorem newE_from (op : Int) (cl : List Int) (ps : List (Nat × Nat)) (n : Nat) (hr : op = 4 ∨ op = 5 → ps.length = 1) : ∀ e, e ∈ newE op ps n → (n ≤ e.1 ∧ e.1 < n + (newS op cl).length) ∨ e.1 ∈ ps.map (fun p => p.2) := by
  intro e he
  unfold newE at he
  unfold newS
  split at he
  · rename_i h; rw [if_pos h]; simp at he; subst he; left; simp
  · rename_i h1
    rw [if_neg h1]
    split at he
    · rename_i h; rw [if_pos h]
      rcases forkEs_from _ _ _ e he with h | h
      · left; simp [h]
      · right; exact h
    · rename_i h3
      rw [if_neg h3]
      split at he
      · rename_i h; rw [if_pos h]
        obtain ⟨q, rfl⟩ := one_of (hr (.inl h))
        simp at he
        rcases he with rfl | rfl
        · left; simp
        · right; simp
      · rename_i h4
        rw [if_neg h4]
        split at he
        · rename_i h; rw [if_pos h]
          obtain ⟨q, rfl⟩ := one_of (hr (.inr h))
          rcases forkEs_from _ _ _ e he with h | h
          · left; simp [h]
          · simp at h
            rcases h with h | h
            · right; simp [h]
            · left; simp [h]
        · rename_i h5
          rw [if_neg h5]
          rcases rowEs_from _ _ e he with h | h
          · left; simp [h]
          · right; exact h
theorem forkEs_to (f e : Nat) (ps : List (Nat × Nat)) : ∀ x, x ∈ forkEs f e ps → x.2 = e ∨ x.2 ∈ ps.map (fun p => p.1) := by
  intro x hx
  unfold forkEs at hx
  obtain ⟨p, hp, hx⟩ := List.mem_flatMap.1 hx
  simp at hx
  rcases hx with rfl | rfl
  · exact .inr (List.mem_map.2 ⟨p, hp, rfl⟩)
  · exact .inl rfl
theorem rowEs_to : (ps : List (Nat × Nat)) → (a : Nat) → ∀ e, e ∈ rowEs a ps → e.2 ∈ ps.map (fun p => p.1)
  | [], _, e, h => by simp [rowEs] at h
  | p :: r, a, e, h => by
    simp only [rowEs, List.mem_cons] at h
    rcases h with rfl | h
    · simp
    · simp only [List.map_cons, List.mem_cons]; exact .inr (rowEs_to r p.2 e h)
theorem newE_to (op : Int) (cl : List Int) (ps : List (Nat × Nat)) (n : Nat) (hr : op = 4 ∨ op = 5 → ps.length = 1) (hp : ∀ p, p ∈ ps → p.1 < n) : ∀ e, e ∈ newE op ps n → e.2 < n + (newS op cl).length := by
  have hf : ∀ i, i ∈ ps.map (fun p => p.1) → i < n := fun i hi => by obtain ⟨p, h1, rfl⟩ := List.mem_map.1 hi; exact hp p h1
  intro e he
  unfold newE at he
  unfold newS
  split at he
  · rename_i h; rw [if_pos h]; simp at he; subst he; simp
  · rename_i h1
    rw [if_neg h1]
    split at he
    · rename_i h; rw [if_pos h]
      rcases forkEs_to _ _ _ e he with h | h
      · simp [h]
      · have := hf _ h; simp; omega
    · rename_i h3
      rw [if_neg h3]
      split at he
      · rename_i h; rw [if_pos h]
        obtain ⟨q, rfl⟩ := one_of (hr (.inl h))
        have := hf q.1 (by simp)
        simp at he
        rcases he with rfl | rfl
        · simp; omega
        · simp
      · rename_i h4
        rw [if_neg h4]
        split at he
        · rename_i h; rw [if_pos h]
          obtain ⟨q, rfl⟩ := one_of (hr (.inr h))
          have := hf q.1 (by simp)
          rcases forkEs_to _ _ _ e he with h | h
          · simp [h]
          · simp at h
            rcases h with h | h <;> (simp [h]; try omega)
        · rename_i h5
          rw [if_neg h5]
          have := hf _ (rowEs_to _ _ e he)
          simp; omega
theorem newP_in (op : Int) (cl : List Int) (ps : List (Nat × Nat)) (n : Nat) : (n ≤ (newP op ps n).1 ∧ (newP op ps n).1 < n + (newS op cl).length) ∧ ((n ≤ (newP op ps n).2 ∧ (newP op ps n).2 < n + (newS op cl).length) ∨ (newP op ps n).2 ∈ ps.map (fun p => p.2)) := by
  unfold newP newS
  split
  · simp
  · split
    · simp
    · split
      · simp
      · split
        · simp
        · refine ⟨by simp, ?_⟩
          rcases rowEnd_mem ps n with h | h
          · left; simp [h]
          · right; exact h
theorem app_get (l n : List St) (i : Nat) (h : i < l.length) : (l ++ n)[i]? = l[i]? := List.getElem?_append_left h
theorem node_struct (op : Int) (cl : List Int) (ps : List (Nat × Nat)) (l : List St) (lo : Nat) (hlo : lo ≤ l.length) (hp : PsIn lo l.length ps) (hr : op = 4 ∨ op = 5 → ps.length = 1) :
    (nodeP op cl ps l).1.length = l.length + (newS op cl).length ∧ (∀ i, i < lo → (nodeP op cl ps l).1[i]? = l[i]?) ∧ lo ≤ (nodeP op cl ps l).2.1 ∧ (nodeP op cl ps l).2.1 < (nodeP op cl ps l).1.length ∧ lo ≤ (nodeP op cl ps l).2.2 ∧ (nodeP op cl ps l).2.2 < (nodeP op cl ps l).1.length := by
  rw [nodeP_eq]
  have hlen : (leads (l ++ newS op cl) (newE op ps l.length)).length = l.length + (newS op cl).length := by rw [leads_len]; simp
  have h1 := newP_in op cl ps l.length
  refine ⟨hlen, fun i hi => ?_, ?_, ?_, ?_, ?_⟩
  · show (leads (l ++ newS op cl) (newE op ps l.length))[i]? = _
    rw [leads_get, app_get _ _ _ (by omega), outs_none _ _ (fun e he h => ?_)]
    · cases l[i]? <;> simp [St.ad_nil]
    · rcases newE_from op cl ps l.length hr e he with h2 | h2
      · omega
      · have := hp.last h2; omega
  · show lo ≤ (newP op ps l.length).1; omega
  · show (newP op ps l.length).1 < _; rw [hlen]; omega
  · show lo ≤ (newP op ps l.length).2
    rcases h1.2 with h2 | h2
    · omega
    · exact (hp.last h2).1
  · show (newP op ps l.length).2 < _
    rw [hlen]
    rcases h1.2 with h2 | h2
    · omega
    · have := (hp.last h2).2; omega
/-- Expressions with as many parts as they may have, of classes that there are. -/
def RightF : Fo → Prop
  | .nil => True
  | .node _ _ a k r => ((a.1 = 4 ∨ a.1 = 5) → (toL k).length = 1) ∧ ((∀ c, c ∈ a.2 → 0 ≤ c ∧ c ≤ 23) ∧ a.2.length ≤ 1000) ∧ RightF k ∧ RightF r
theorem pieces_struct : (f : Fo) → RightF f → (l : List St) → l.length ≤ (piecesF f l).1.length ∧ (∀ i, i < l.length → (piecesF f l).1[i]? = l[i]?) ∧ PsIn l.length (piecesF f l).1.length (piecesF f l).2 ∧ (piecesF f l).2.length = (toL f).length
  | .nil, _, l => ⟨Nat.le_refl _, fun _ _ => rfl, ⟨fun p hp => by simp [piecesF] at hp, by simp [piecesF]⟩, rfl⟩
  | .node _ _ a k r, h, l => by
    obtain ⟨hr, _, hk, hrr⟩ := h
    obtain ⟨a1, a2, a3, a4⟩ := pieces_struct k hk l
    obtain ⟨b1, b2, b3, b4, b5, b6⟩ := node_struct a.1 a.2 (piecesF k l).2 (piecesF k l).1 l.length a1 a3 (fun h => by rw [a4]; exact hr h)
    obtain ⟨c1, c2, c3, c4⟩ := pieces_struct r hrr (nodeP a.1 a.2 (piecesF k l).2 (piecesF k l).1).1
    simp only [piecesF, toL, List.length_cons]
    refine ⟨by omega, fun i hi => ?_, ⟨fun p hp => ?_, ?_⟩, by omega⟩
    · rw [c2 i (by omega), b2 i hi, a2 i hi]
    · rcases List.mem_cons.1 hp with rfl | hp
      · exact ⟨by omega, by omega, by omega, by omega⟩
      · have := c3.1 p hp
        exact ⟨by omega, by omega, by omega, by omega⟩
    · simp only [List.map_cons, List.nodup_cons]
      refine ⟨fun hm => ?_, c3.2⟩
      have := (c3.last hm).1
      omega

theorem pok_congr {M : List St} {fin : Nat} {L L' : List Int → Prop} {p : Nat × Nat} {T : List Nat} (h : ∀ w, L w ↔ L' w) (hp : POk M fin L p T) : POk M fin L' p T :=
  ⟨fun k w ha => by
    obtain ⟨j, u, v, h1, h2, h3, h4⟩ := hp.1 k w ha
    exact ⟨j, u, v, h1, h2, (h u).1 h3, h4⟩, fun j u v hu he => hp.2 j u v ((h u).2 hu) he⟩
theorem node_ok {M : List St} {fin : Nat} (op : Int) (cl : List Int) (ps : List (Nat × Nat)) (l : List St) (lo : Nat) (ks : List (List Int → Prop)) (ext : Nat → List Nat) (hlo : lo ≤ l.length) (hp : PsIn lo l.length ps) (hr : op = 4 ∨ op = 5 → ps.length = 1) (hk : ks.length = ps.length)
    (hM : ∀ i, lo ≤ i → i < (nodeP op cl ps l).1.length → M[i]? = ((nodeP op cl ps l).1[i]?).map (fun s => s.ad (ext i))) (hx : ∀ i, lo ≤ i → i < (nodeP op cl ps l).1.length → i ≠ (nodeP op cl ps l).2.2 → ext i = [] ∧ i ≠ fin)
    (hkids : ∀ E : Nat → List Nat, (∀ i, lo ≤ i → i < l.length → M[i]? = (l[i]?).map (fun s => s.ad (E i))) → (∀ i, lo ≤ i → i < l.length → i ∉ ps.map (fun p => p.2) → E i = [] ∧ i ≠ fin) → ∀ i (hi : i < ps.length) (hj : i < ks.length), POk M fin ks[i] ps[i] (E ps[i].2)) :
    POk M fin (nodeL op cl ks) (nodeP op cl ps l).2 (ext (nodeP op cl ps l).2.2) := by
  obtain ⟨b1, _, _, _, _, _⟩ := node_struct op cl ps l lo hlo hp hr
  rw [b1] at hM hx
  rw [nodeP_eq] at hM hx ⊢
  simp only at hM hx ⊢
  have hin := newP_in op cl ps l.length
  have hfrom := newE_from op cl ps l.length hr
  obtain ⟨E, hE⟩ : ∃ E : Nat → List Nat, E = fun i => outs (newE op ps l.length) i ++ ext i := ⟨_, rfl⟩
  have hEi : ∀ i, E i = outs (newE op ps l.length) i ++ ext i := fun i => by rw [hE]
  have hMi : ∀ i, lo ≤ i → i < l.length + (newS op cl).length → M[i]? = ((l ++ newS op cl)[i]?).map (fun s => s.ad (E i)) := by
    intro i h1 h2
    rw [hM i h1 h2, leads_get, hEi]
    cases (l ++ newS op cl)[i]? <;> simp [St.ad_ad]
  have hnew : ∀ j (hj : j < (newS op cl).length), M[l.length + j]? = some ((newS op cl)[j].ad (E (l.length + j))) := by
    intro j hj
    rw [hMi _ (by omega) (by omega), List.getElem?_append_right (by omega), show l.length + j - l.length = j by omega, List.getElem?_eq_getElem hj]
    rfl
  have hK := hkids E (fun i h1 h2 => by rw [hMi i h1 (by omega), app_get _ _ _ h2]) (fun i h1 h2 h3 => by
    have hne : i ≠ (newP op ps l.length).2 := fun h => by
      rcases hin.2 with h4 | h4
      · omega
      · exact h3 (by rw [h]; exact h4)
    obtain ⟨e1, e2⟩ := hx i h1 (by omega) hne
    rw [hEi, e1, outs_none _ _ (fun e he h => by
      rcases hfrom e he with h4 | h4
      · omega
      · exact h3 (by rw [← h]; exact h4))]
    exact ⟨rfl, e2⟩)
  have hpb : ∀ i (hi : i < ps.length), lo ≤ ps[i].2 ∧ ps[i].2 < l.length := fun i hi => hp.last (List.mem_map.2 ⟨_, List.getElem_mem hi, rfl⟩)
  obtain ⟨n, hn⟩ : ∃ n, n = l.length := ⟨_, rfl⟩
  rw [← hn] at hM hx hin hfrom hEi hnew hpb hlo hp ⊢
  clear hM hMi hE hkids b1
  by_cases h1 : op = 1
  · subst h1
    have s0 := hnew 0 (by simp [newS])
    have s1 := hnew 1 (by simp [newS])
    have x0 := hx n (by omega) (by simp [newS]) (by simp [newP])
    have e0 : E n = [n + 1] := by rw [hEi, x0.1]; simp [newE, outs]
    have e1 : E (n + 1) = ext (n + 1) := by rw [hEi]; simp [newE, outs]
    simp [newS, St.ad, e0, e1, st0] at s0 s1
    have := pok_reader (M := M) (fin := fin) (T := ext (n + 1)) s0 s1 x0.2
    rw [show newP 1 ps n = (n, n + 1) by simp [newP]]
    exact pok_congr (fun w => by simp [nodeL]) this
  by_cases h3 : op = 3
  · subst h3
    have s0 := hnew 0 (by simp [newS])
    have s1 := hnew 1 (by simp [newS])
    have x0 := hx n (by omega) (by simp [newS]) (by simp [newP])
    have hnl : ∀ m, n ≤ m → m ∉ ps.map (fun p => p.2) := fun m hm h => by have := (hp.last h).2; omega
    have e0 : E n = ps.map (fun p => p.1) := by
      rw [hEi, x0.1]
      simp only [newE, if_neg h1, if_pos rfl, List.append_nil]
      exact forkEs_first n (n + 1) ps (hnl n (Nat.le_refl _))
    have e1 : E (n + 1) = ext (n + 1) := by
      rw [hEi]
      simp only [newE, if_neg h1, if_pos rfl]
      rw [outs_none _ _ (fun x hx h => by
        rcases forkEs_from _ _ _ x hx with h2 | h2
        · omega
        · exact hnl (n + 1) (by omega) (by rw [← h]; exact h2))]
      rfl
    simp [newS, St.ad, e0, e1, st0] at s0 s1
    have := pok_fork (M := M) (fin := fin) (T := ext (n + 1)) (ks := ks) hk s0 s1 x0.2 (fun i hi => by
      have b := hpb i hi
      have x := hx ps[i].2 b.1 (by omega) (by simp [newP]; omega)
      have e : E ps[i].2 = [n + 1] := by
        rw [hEi, x.1]
        simp only [newE, if_neg h1, if_pos rfl, List.append_nil]
        exact forkEs_last n (n + 1) ps hp.2 (hnl n (Nat.le_refl _)) i hi
      have := hK i hi (by omega)
      rw [e] at this
      exact ⟨this, x.2⟩)
    rw [show newP 3 ps n = (n, n + 1) by simp [newP]]
    exact pok_congr (fun w => by simp [nodeL]) this
  by_cases h4 : op = 4
  · subst h4
    obtain ⟨q, rfl⟩ := one_of (hr (.inl rfl))
    obtain ⟨K, rfl⟩ := one_of (hk.trans rfl)
    have b := hpb 0 (by simp)
    simp at b
    have s0 := hnew 0 (by simp [newS])
    have xq := hx q.2 b.1 (by omega) (by simp [newP]; omega)
    have e0 : E n = [q.1] ++ ext n := by
      rw [hEi]
      simp [newE, outs_cons, outs, show ¬ q.2 = n by omega]
    have eq : E q.2 = [n] := by
      rw [hEi, xq.1]
      simp [newE, outs_cons, outs, show ¬ n = q.2 by omega]
    simp [newS, St.ad, e0, st0] at s0
    have h0 := hK 0 (by simp) (by simp)
    simp [eq] at h0
    have := pok_loop (M := M) (fin := fin) (T := ext n) (n := n) (q := q) (K := K) (by simpa using s0) h0 xq.2
    rw [show newP 4 [q] n = (n, n) by simp [newP]]
    exact pok_congr (fun w => by simp [nodeL]) this
  by_cases h5 : op = 5
  · subst h5
    obtain ⟨q, rfl⟩ := one_of (hr (.inr rfl))
    obtain ⟨K, rfl⟩ := one_of (hk.trans rfl)
    have b := hpb 0 (by simp)
    simp at b
    have s0 := hnew 0 (by simp [newS])
    have s1 := hnew 1 (by simp [newS])
    have s2 := hnew 2 (by simp [newS])
    have xq := hx q.2 b.1 (by omega) (by simp [newP]; omega)
    have x0 := hx n (by omega) (by simp [newS]) (by simp [newP])
    have x1 := hx (n + 1) (by omega) (by simp [newS]) (by simp [newP])
    have e0 : E n = [n + 2] := by
      rw [hEi, x0.1]
      simp [newE, forkEs, outs_cons, outs, show ¬ q.2 = n by omega]
    have e1 : E (n + 1) = [q.1, n] := by
      rw [hEi, x1.1]
      simp [newE, forkEs, outs_cons, outs, show ¬ q.2 = n + 1 by omega]
    have e2 : E (n + 2) = ext (n + 2) := by
      rw [hEi]
      simp [newE, forkEs, outs_cons, outs, show ¬ q.2 = n + 2 by omega]
    have eq : E q.2 = [n + 2] := by
      rw [hEi, xq.1]
      simp [newE, forkEs, outs_cons, outs, show ¬ n + 1 = q.2 by omega, show ¬ n = q.2 by omega]
    simp [newS, St.ad, e0, e1, e2, st0] at s0 s1 s2
    have h0 := hK 0 (by simp) (by simp)
    simp [eq] at h0
    have hz : POk M fin (seqL []) (n, n) [n + 2] := pok_row (E := fun _ => [n + 2]) (ps := []) s0 rfl
    have := pok_fork (M := M) (fin := fin) (T := ext (n + 2)) (f := n + 1) (e := n + 2) (ps := [q, (n, n)]) (ks := [K, seqL []]) rfl s1 s2 x1.2 (fun i hi => by
      match i, hi with
      | 0, _ => exact ⟨h0, xq.2⟩
      | 1, _ => exact ⟨hz, x0.2⟩)
    have h2 := pok_congr (L' := nodeL 5 cl [K]) (fun w => by
      simp [nodeL, altL, seqL]
      exact or_comm) this
    rw [show newP 5 [q] n = (n + 1, n + 2) by simp [newP]]
    exact h2
  · have s0 := hnew 0 (by have := (newS_len op cl).1; omega)
    have hns : newS op cl = [st0] := by simp [newS, h1, h3, h4, h5]
    have hnp : newP op ps n = (n, rowEnd n ps) := by simp [newP, h1, h3, h4, h5]
    have hne : newE op ps n = rowEs n ps := by simp [newE, h1, h3, h4, h5]
    rw [hns] at hx
    rw [hnp] at hx ⊢
    rw [hne] at hEi
    simp [hns, St.ad, st0] at s0
    have hd : (n :: ps.map (fun p => p.2)).Nodup := by
      simp only [List.nodup_cons]
      exact ⟨fun h => by have := (hp.last h).2; omega, hp.2⟩
    have hrow := rowH_of (M := M) (fin := fin) (ext := ext) (E := E) ps ks n hk hd (fun i _ => hEi i) (fun i hi hne => by
      have : lo ≤ i ∧ i ≤ n := by
        rcases hi with rfl | hi
        · exact ⟨hlo, Nat.le_refl _⟩
        · have := hp.last hi; omega
      exact hx i this.1 (by simp; omega) hne) hK
    have := pok_row (M := M) s0 hrow
    exact pok_congr (fun w => by simp [nodeL, h1, h3, h4, h5]) this
theorem pieces_ok {M : List St} {fin : Nat} : (f : Fo) → RightF f → (l : List St) → (ext : Nat → List Nat) → (∀ i, l.length ≤ i → i < (piecesF f l).1.length → M[i]? = ((piecesF f l).1[i]?).map (fun s => s.ad (ext i))) →
    (∀ i, l.length ≤ i → i < (piecesF f l).1.length → i ∉ (piecesF f l).2.map (fun p => p.2) → ext i = [] ∧ i ≠ fin) → ∀ i (hi : i < (piecesF f l).2.length) (hk : i < (fitF f).length), POk M fin (fitF f)[i] (piecesF f l).2[i] (ext (piecesF f l).2[i].2)
  | .nil, _, l, ext, _, _, i, hi, _ => by simp [piecesF] at hi
  | .node _ _ a k r, h, l, ext, hM, hx, i, hi, hk => by
    obtain ⟨hr, _, hkk, hrr⟩ := h
    obtain ⟨a1, a2, a3, a4⟩ := pieces_struct k hkk l
    have hr' : a.1 = 4 ∨ a.1 = 5 → (piecesF k l).2.length = 1 := fun h => by rw [a4]; exact hr h
    obtain ⟨b1, b2, b3, b4, b5, b6⟩ := node_struct a.1 a.2 (piecesF k l).2 (piecesF k l).1 l.length a1 a3 hr'
    obtain ⟨c1, c2, c3, c4⟩ := pieces_struct r hrr (nodeP a.1 a.2 (piecesF k l).2 (piecesF k l).1).1
    simp only [piecesF] at hM hx
    cases i with
    | zero =>
      show POk M fin (nodeL a.1 a.2 (fitF k)) (nodeP a.1 a.2 (piecesF k l).2 (piecesF k l).1).2 (ext (nodeP a.1 a.2 (piecesF k l).2 (piecesF k l).1).2.2)
      refine node_ok a.1 a.2 _ _ l.length (fitF k) ext a1 a3 hr' (by rw [fitF_map]; simp [a4]) (fun i h1 h2 => ?_) (fun i h1 h2 h3 => ?_) (fun E h1 h2 => ?_)
      · rw [hM i h1 (by omega), c2 i h2]
      · refine hx i h1 (by omega) (fun hm => ?_)
        simp only [List.map_cons, List.mem_cons] at hm
        rcases hm with hm | hm
        · exact h3 hm
        · have := (c3.last hm).1; omega
      · exact pieces_ok k hkk l E h1 h2
    | succ i =>
      show POk M fin ((fitF r)[i]'_) ((piecesF r (nodeP a.1 a.2 (piecesF k l).2 (piecesF k l).1).1).2[i]'_) (ext ((piecesF r (nodeP a.1 a.2 (piecesF k l).2 (piecesF k l).1).1).2[i]'_).2)
      refine pieces_ok r hrr _ ext (fun i h1 h2 => hM i (by omega) h2) (fun i h1 h2 h3 => hx i (by omega) h2 (fun hm => ?_)) i _ _
      simp only [List.map_cons, List.mem_cons] at hm
      rcases hm with hm | hm
      · omega
      · exact h3 hm
def Nd.right (n : Nd) : Prop := RightF (.node 0 0 (n.op, n.cl) n.kids .nil)
/-- The machine of an expression reads just what that fits. -/
theorem piece_fits (n : Nd) (h : n.right) (w : List Int) : (∃ k, Acc (n.piece []).1 (n.piece []).2.2 k (n.piece []).2.1 w) ↔ n.fits w := by
  have h0 := pieces_ok (M := (n.piece []).1) (fin := (n.piece []).2.2) (.node 0 0 (n.op, n.cl) n.kids .nil) h [] (fun _ => []) (fun i _ _ => by
    show (n.piece []).1[i]? = ((n.piece []).1[i]?).map _
    cases (n.piece []).1[i]? <;> simp [St.ad_nil]) (fun i _ _ hm => by
    refine ⟨rfl, fun he => hm ?_⟩
    show i ∈ [(n.piece []).2].map (fun p => p.2)
    simp [he]) 0 (by simp [piecesF]) (by simp [fitF])
  have h1 : POk (n.piece []).1 (n.piece []).2.2 n.fits (n.piece []).2 [] := h0
  constructor
  · rintro ⟨k, hk⟩
    obtain ⟨j, u, v, _, rfl, hu, he⟩ := h1.1 k w hk
    rcases he with ⟨_, rfl⟩ | ⟨t, ht, _⟩
    · simpa using hu
    · simp at ht
  · intro hw
    obtain ⟨k, hk⟩ := h1.2 0 w [] hw (.inl ⟨rfl, rfl⟩)
    exact ⟨k, by simpa using hk⟩
end Go.Proofs.YtpmmmgjiekikeaaDoor

/- Plain mathematics of machines: what every machine keeps to, how large one is; what is reached without reading; sets of states that wait, read step by step; nothing of the program is named here. -/
namespace Go.Proofs.YtpmmmgjiekikeaaDoor
set_option linter.unusedVariables false
set_option linter.unusedSimpArgs false

/-- All ways lead to states; who does not read has no classes; classes are those that there are. -/
def WfL (l : List St) : Prop := ∀ (i : Nat) (s : St), l[i]? = some s → (∀ t, t ∈ s.next → t < l.length) ∧ (s.reads = false → s.cl = []) ∧ (∀ c, c ∈ s.cl → 0 ≤ c ∧ c ≤ 23) ∧ s.cl.length ≤ 1000
theorem wf_leads {l : List St} {es : List (Nat × Nat)} (h : ∀ (i : Nat) (s : St), l[i]? = some s → (∀ t, t ∈ s.next → t < l.length) ∧ (s.reads = false → s.cl = []) ∧ (∀ c, c ∈ s.cl → 0 ≤ c ∧ c ≤ 23) ∧ s.cl.length ≤ 1000) (he : ∀ e, e ∈ es → e.2 < l.length) : WfL (leads l es) := by
  intro i s hs
  rw [leads_get] at hs
  obtain ⟨s0, h0, rfl⟩ := Option.map_eq_some_iff.1 hs
  obtain ⟨a1, a2, a3⟩ := h i s0 h0
  refine ⟨fun t ht => ?_, a2, a3⟩
  rw [leads_len]
  simp only [St.ad, List.mem_append] at ht
  rcases ht with ht | ht
  · exact a1 t ht
  · unfold outs at ht
    obtain ⟨e, h1, rfl⟩ := List.mem_map.1 ht
    exact he e (List.mem_filter.1 h1).1
theorem newS_mem (op : Int) (cl : List Int) : ∀ s, s ∈ newS op cl → s.next = [] ∧ ((s.reads = true ∧ s.cl = cl) ∨ (s.reads = false ∧ s.cl = [])) := by
  intro s hs
  unfold newS at hs
  repeat' split at hs
  all_goals
    simp only [List.mem_cons, List.mem_nil_iff, or_false] at hs
    rcases hs with rfl | rfl | rfl <;> simp [st0]
theorem wf_node (op : Int) (cl : List Int) (ps : List (Nat × Nat)) (l : List St) (hr : op = 4 ∨ op = 5 → ps.length = 1) (hp : ∀ p, p ∈ ps → p.1 < l.length) (hc : (∀ c, c ∈ cl → 0 ≤ c ∧ c ≤ 23) ∧ cl.length ≤ 1000) (h : WfL l) : WfL (nodeP op cl ps l).1 := by
  rw [nodeP_eq]
  refine wf_leads (fun i s hs => ?_) (fun e he => ?_)
  · rcases Nat.lt_or_ge i l.length with hi | hi
    · rw [app_get _ _ _ hi] at hs
      obtain ⟨a1, a2, a3⟩ := h i s hs
      exact ⟨fun t ht => by have := a1 t ht; simp; omega, a2, a3⟩
    · rw [List.getElem?_append_right hi] at hs
      obtain ⟨a1, a2⟩ := newS_mem op cl s (List.mem_of_getElem? hs)
      refine ⟨fun t ht => by rw [a1] at ht; simp at ht, fun hf => ?_, fun c hcm => ?_, ?_⟩
      · rcases a2 with ⟨b, _⟩ | ⟨_, b⟩
        · rw [b] at hf; cases hf
        · exact b
      · rcases a2 with ⟨_, b⟩ | ⟨_, b⟩
        · rw [b] at hcm; exact hc.1 c hcm
        · rw [b] at hcm; simp at hcm
      · rcases a2 with ⟨_, b⟩ | ⟨_, b⟩
        · rw [b]; exact hc.2
        · rw [b]; simp
  · have := newE_to op cl ps l.length hr hp e he
    simpa using this
theorem wf_pieces : (f : Fo) → RightF f → (l : List St) → WfL l → WfL (piecesF f l).1
  | .nil, _, l, h => h
  | .node _ _ a k r, hf, l, h => by
    obtain ⟨hr, hc, hk, hrr⟩ := hf
    obtain ⟨a1, a2, a3, a4⟩ := pieces_struct k hk l
    exact wf_pieces r hrr _ (wf_node a.1 a.2 _ _ (fun h => by rw [a4]; exact hr h) (fun p hp => (a3.1 p hp).2.1) hc (wf_pieces k hk l h))
/-- How much there is of states and ways. -/
def szS (l : List St) : Nat := (l.map (fun s => s.next.length + 1)).sum
theorem szS_append (a b : List St) : szS (a ++ b) = szS a + szS b := by simp [szS]
theorem szS_lead : (l : List St) → (i j : Nat) → szS (leadS l i j) ≤ szS l + 1
  | [], i, j => by simp [leadS, szS]
  | s :: r, 0, j => by simp [leadS, szS, St.ad]; omega
  | s :: r, i + 1, j => by
    have ih := szS_lead r i j
    simp [leadS, szS] at ih ⊢
    omega
theorem szS_leads : (es : List (Nat × Nat)) → (l : List St) → szS (leads l es) ≤ szS l + es.length
  | [], l => Nat.le_refl _
  | e :: r, l => by
    have h1 := szS_leads r (leadS l e.1 e.2)
    have h2 := szS_lead l e.1 e.2
    show szS (leads (leadS l e.1 e.2) r) ≤ _
    simp only [List.length_cons]
    omega
theorem szS_len : (l : List St) → l.length ≤ szS l
  | [] => by simp [szS]
  | s :: r => by have := szS_len r; simp [szS] at this ⊢; omega
theorem szS_next : (l : List St) → ∀ (i : Nat) (s : St), l[i]? = some s → s.next.length + 1 ≤ szS l
  | [], i, s, h => by simp at h
  | x :: r, 0, s, h => by
    simp at h
    subst h
    simp [szS]
  | x :: r, i + 1, s, h => by
    have := szS_next r i s (by simpa using h)
    simp [szS] at this ⊢
    omega
theorem rowEs_len : (ps : List (Nat × Nat)) → (a : Nat) → (rowEs a ps).length = ps.length
  | [], _ => rfl
  | p :: r, a => by simp [rowEs, rowEs_len r]
theorem forkEs_len (f e : Nat) : (ps : List (Nat × Nat)) → (forkEs f e ps).length = 2 * ps.length
  | [] => rfl
  | p :: r => by
    show ((f, p.1) :: (p.2, e) :: forkEs f e r).length = _
    simp [forkEs_len f e r]; omega
theorem sz_node (op : Int) (cl : List Int) (ps : List (Nat × Nat)) (l : List St) : szS (nodeP op cl ps l).1 ≤ szS l + 7 + 2 * ps.length := by
  rw [nodeP_eq]
  have h1 := szS_leads (newE op ps l.length) (l ++ newS op cl)
  rw [szS_append] at h1
  have h2 : szS (newS op cl) + (newE op ps l.length).length ≤ 7 + 2 * ps.length := by
    unfold newS newE
    by_cases e1 : op = 1
    · simp [e1, szS, st0]; try omega
    by_cases e3 : op = 3
    · simp [e3, szS, st0, forkEs_len]; try omega
    by_cases e4 : op = 4
    · simp [e4, szS, st0]; omega
    by_cases e5 : op = 5
    · simp [e5, szS, st0, forkEs_len]
    · simp [e1, e3, e4, e5, szS, st0, rowEs_len]; omega
  show szS (leads (l ++ newS op cl) (newE op ps l.length)) ≤ _
  omega
def cntF : Fo → Nat
  | .nil => 0
  | .node _ _ _ k r => 1 + cntF k + cntF r
def Nd.cnt (n : Nd) : Nat := 1 + cntF n.kids
theorem sz_pieces : (f : Fo) → RightF f → (l : List St) → szS (piecesF f l).1 + 2 * (toL f).length ≤ szS l + 9 * cntF f
  | .nil, _, l => by simp [piecesF, toL, cntF]
  | .node _ _ a k r, hf, l => by
    obtain ⟨_, _, hk, hrr⟩ := hf
    have h1 := sz_pieces k hk l
    have h2 := sz_node a.1 a.2 (piecesF k l).2 (piecesF k l).1
    have h3 := sz_pieces r hrr (nodeP a.1 a.2 (piecesF k l).2 (piecesF k l).1).1
    rw [(pieces_struct k hk l).2.2.2] at h2
    simp only [piecesF, toL, cntF, List.length_cons]
    omega

/-! What is reached without reading. -/
def ReachN (M : List St) : Nat → Nat → Nat → Prop
  | 0, a, q => a = q
  | k + 1, a, q => a = q ∨ ∃ s : St, M[a]? = some s ∧ s.reads = false ∧ ∃ t, t ∈ s.next ∧ ReachN M k t q
def Reach (M : List St) (a q : Nat) : Prop := ∃ k, ReachN M k a q
theorem Reach.refl (M : List St) (a : Nat) : Reach M a a := ⟨0, rfl⟩
theorem Reach.step {M : List St} {a t q : Nat} {s : St} (h : M[a]? = some s) (hr : s.reads = false) (ht : t ∈ s.next) (hq : Reach M t q) : Reach M a q := by
  obtain ⟨k, hk⟩ := hq
  exact ⟨k + 1, .inr ⟨s, h, hr, t, ht, hk⟩⟩
theorem reachN_trans {M : List St} : (k : Nat) → {a b q : Nat} → ReachN M k a b → Reach M b q → Reach M a q
  | 0, _, _, _, h, hq => by
    have h' : _ = _ := h
    rw [h']; exact hq
  | k + 1, _, _, _, h, hq => by
    rcases h with rfl | ⟨s, h1, h2, t, h3, h4⟩
    · exact hq
    · exact Reach.step h1 h2 h3 (reachN_trans k h4 hq)
theorem Reach.trans {M : List St} {a b q : Nat} (h : Reach M a b) (hq : Reach M b q) : Reach M a q := by
  obtain ⟨k, hk⟩ := h
  exact reachN_trans k hk hq
theorem reachN_lt {M : List St} (hw : WfL M) : (k : Nat) → {a q : Nat} → a < M.length → ReachN M k a q → q < M.length
  | 0, _, _, ha, h => by
    have h' : _ = _ := h
    rw [← h']; exact ha
  | k + 1, _, _, ha, h => by
    rcases h with rfl | ⟨s, h1, _, t, h3, h4⟩
    · exact ha
    · exact reachN_lt hw k ((hw _ _ h1).1 t h3) h4
def AccS (M : List St) (fin : Nat) (at_ : List Nat) (w : List Int) : Prop := ∃ a, a ∈ at_ ∧ ∃ k, Acc M fin k a w
theorem acc_end {M : List St} {fin : Nat} : (k : Nat) → {a : Nat} → Acc M fin k a [] → Reach M a fin
  | 0, _, h => h.elim
  | k + 1, _, h => by
    rcases h with ⟨rfl, _⟩ | ⟨s, h1, ⟨h2, t, h3, h4⟩ | ⟨_, c, v, h, _⟩⟩
    · exact Reach.refl _ _
    · exact Reach.step h1 h2 h3 (acc_end k h4)
    · simp at h
theorem acc_reads {M : List St} {fin : Nat} {c : Int} {v : List Int} : (k : Nat) → {a : Nat} → Acc M fin k a (c :: v) → ∃ (q : Nat) (s : St), Reach M a q ∧ M[q]? = some s ∧ s.reads = true ∧ c ∈ s.cl ∧ ∃ t, t ∈ s.next ∧ ∃ j, Acc M fin j t v
  | 0, _, h => h.elim
  | k + 1, a, h => by
    rcases h with ⟨_, h⟩ | ⟨s, h1, ⟨h2, t, h3, h4⟩ | ⟨h2, c', v', h, h3, t, h4, h5⟩⟩
    · simp at h
    · obtain ⟨q, s', r1, r2⟩ := acc_reads k h4
      exact ⟨q, s', Reach.step h1 h2 h3 r1, r2⟩
    · simp at h
      obtain ⟨rfl, rfl⟩ := h
      exact ⟨a, s, Reach.refl _ _, h1, h2, h3, t, h4, k, h5⟩
theorem reachN_acc {M : List St} {fin : Nat} {w : List Int} : (k : Nat) → {a q : Nat} → ReachN M k a q → (∃ j, Acc M fin j q w) → ∃ j, Acc M fin j a w
  | 0, _, _, h, hq => by
    have h' : _ = _ := h
    rw [h']; exact hq
  | k + 1, _, _, h, hq => by
    rcases h with rfl | ⟨s, h1, h2, t, h3, h4⟩
    · exact hq
    · obtain ⟨j, hj⟩ := reachN_acc k h4 hq
      exact ⟨j + 1, .inr ⟨s, h1, .inl ⟨h2, t, h3, hj⟩⟩⟩
/-- The states that wait, of those that are reached from some. -/
def IsW (M : List St) (fin : Nat) (at_ : List Nat) (L : List Nat) : Prop :=
  L.Pairwise (· < ·) ∧ ∀ q, q ∈ L ↔ (q < M.length ∧ (∃ a, a ∈ at_ ∧ Reach M a q) ∧ ((∃ s : St, M[q]? = some s ∧ s.reads = true) ∨ q = fin))
def takesB (M : List St) (x c : Int) : Bool := decide (0 ≤ x) && decide (x < (M.length : Int)) && decide (c ∈ (M.getD x.toNat st0).cl)
/-- Where those states lead that take a class. -/
def stepAt (M : List St) (S : List Int) (c : Int) : List Nat := S.flatMap fun x => if takesB M x c then (M.getD x.toNat st0).next else []
theorem takesB_iff (M : List St) (x c : Int) : takesB M x c = true ↔ ∃ q : Nat, ∃ s : St, x = (q : Int) ∧ M[q]? = some s ∧ c ∈ s.cl := by
  unfold takesB
  simp only [Bool.and_eq_true, decide_eq_true_eq]
  constructor
  · rintro ⟨⟨h1, h2⟩, h3⟩
    have hl : x.toNat < M.length := by omega
    refine ⟨x.toNat, M[x.toNat], by omega, List.getElem?_eq_getElem hl, ?_⟩
    rw [List.getD_eq_getElem?_getD, List.getElem?_eq_getElem hl] at h3
    exact h3
  · rintro ⟨q, s, rfl, h2, h3⟩
    have := (List.getElem?_eq_some_iff.1 h2).1
    refine ⟨⟨by omega, by omega⟩, ?_⟩
    rw [List.getD_eq_getElem?_getD, Int.toNat_natCast, h2]
    exact h3
theorem mem_stepAt (M : List St) (S : List Int) (c : Int) (t : Nat) : t ∈ stepAt M S c ↔ ∃ q : Nat, ∃ s : St, (q : Int) ∈ S ∧ M[q]? = some s ∧ c ∈ s.cl ∧ t ∈ s.next := by
  unfold stepAt
  rw [List.mem_flatMap]
  constructor
  · rintro ⟨x, hx, ht⟩
    by_cases h : takesB M x c = true
    · rw [if_pos h] at ht
      obtain ⟨q, s, rfl, h2, h3⟩ := (takesB_iff M x c).1 h
      rw [List.getD_eq_getElem?_getD, Int.toNat_natCast, h2] at ht
      exact ⟨q, s, hx, h2, h3, ht⟩
    · rw [if_neg h] at ht; simp at ht
  · rintro ⟨q, s, h1, h2, h3, h4⟩
    refine ⟨q, h1, ?_⟩
    rw [if_pos ((takesB_iff M q c).2 ⟨q, s, rfl, h2, h3⟩), List.getD_eq_getElem?_getD, Int.toNat_natCast, h2]
    exact h4
theorem stepAt_lt {M : List St} (hw : WfL M) (S : List Int) (c : Int) : ∀ t, t ∈ stepAt M S c → t < M.length := by
  intro t ht
  obtain ⟨q, s, _, h2, _, h4⟩ := (mem_stepAt M S c t).1 ht
  exact (hw q s h2).1 t h4
theorem isW_nil {M : List St} {fin : Nat} {at_ L : List Nat} (h : IsW M fin at_ L) (hf : fin < M.length) : fin ∈ L ↔ AccS M fin at_ [] := by
  rw [h.2]
  constructor
  · rintro ⟨_, ⟨a, ha, k, hk⟩, _⟩
    exact ⟨a, ha, reachN_acc k hk ⟨1, .inl ⟨rfl, rfl⟩⟩⟩
  · rintro ⟨a, ha, k, hk⟩
    exact ⟨hf, ⟨a, ha, acc_end k hk⟩, .inr rfl⟩
theorem isW_cons {M : List St} {fin : Nat} {at_ L : List Nat} (hw : WfL M) (h : IsW M fin at_ L) (c : Int) (v : List Int) : AccS M fin at_ (c :: v) ↔ AccS M fin (stepAt M (L.map (fun (x : Nat) => (x : Int))) c) v := by
  constructor
  · rintro ⟨a, ha, k, hk⟩
    obtain ⟨q, s, r1, r2, r3, r4, t, r5, j, r6⟩ := acc_reads k hk
    refine ⟨t, (mem_stepAt _ _ _ _).2 ⟨q, s, ?_, r2, r4, r5⟩, j, r6⟩
    refine List.mem_map.2 ⟨q, (h.2 q).2 ⟨(List.getElem?_eq_some_iff.1 r2).1, ⟨a, ha, r1⟩, .inl ⟨s, r2, r3⟩⟩, rfl⟩
  · rintro ⟨t, ht, j, hj⟩
    obtain ⟨q, s, h1, h2, h3, h4⟩ := (mem_stepAt _ _ _ _).1 ht
    obtain ⟨q', hq', e⟩ := List.mem_map.1 h1
    obtain rfl : q' = q := by omega
    obtain ⟨_, ⟨a, ha, k, hk⟩, hr⟩ := (h.2 q').1 hq'
    have hrd : s.reads = true := by
      cases hs : s.reads with
      | true => rfl
      | false => rw [(hw q' s h2).2.1 hs] at h3; simp at h3
    exact ⟨a, ha, reachN_acc k hk ⟨j + 1, .inr ⟨s, h2, .inr ⟨hrd, c, v, rfl, h3, t, h4, hj⟩⟩⟩⟩
/-- Rising lists with the same members are the same. -/
theorem rising_ext : (a b : List Nat) → a.Pairwise (· < ·) → b.Pairwise (· < ·) → (∀ x, x ∈ a ↔ x ∈ b) → a = b
  | [], [], _, _, _ => rfl
  | [], y :: b, _, _, h => by have := (h y).2 (by simp); simp at this
  | x :: a, [], _, _, h => by have := (h x).1 (by simp); simp at this
  | x :: a, y :: b, ha, hb, h => by
    simp only [List.pairwise_cons] at ha hb
    have hxy : x = y := by
      have h1 := (h x).1 (by simp)
      have h2 := (h y).2 (by simp)
      rcases List.mem_cons.1 h1 with e | e
      · exact e
      · rcases List.mem_cons.1 h2 with e2 | e2
        · exact e2.symm
        · have := hb.1 x e
          have := ha.1 y e2
          omega
    subst hxy
    refine congrArg _ (rising_ext a b ha.2 hb.2 (fun z => ?_))
    constructor
    · intro hz
      rcases List.mem_cons.1 ((h z).1 (List.mem_cons.2 (.inr hz))) with e | e
      · subst e; have := ha.1 z hz; omega
      · exact e
    · intro hz
      rcases List.mem_cons.1 ((h z).2 (List.mem_cons.2 (.inr hz))) with e | e
      · subst e; have := hb.1 z hz; omega
      · exact e
theorem isW_same {M : List St} {fin : Nat} {at_ L L' : List Nat} (h : IsW M fin at_ L) (h' : IsW M fin at_ L') : L = L' := rising_ext L L' h.1 h'.1 (fun x => by rw [h.2, h'.2])
theorem isW_len {M : List St} {fin : Nat} {at_ L : List Nat} (h : IsW M fin at_ L) : L.length ≤ M.length := by
  have key : (l : List Nat) → (lo n : Nat) → l.Pairwise (· < ·) → (∀ q, q ∈ l → lo ≤ q ∧ q < n) → l.length + lo ≤ n ∨ l = [] := by
    intro l
    induction l with
    | nil => intro lo n _ _; exact .inr rfl
    | cons x r ih =>
      intro lo n hp hq
      simp only [List.pairwise_cons] at hp
      have hx := hq x (by simp)
      rcases ih (x + 1) n hp.2 (fun q h => ⟨hp.1 q h, (hq q (by simp [h])).2⟩) with h | h
      · left; simp; omega
      · left; simp [h]; omega
  rcases key L 0 M.length h.1 (fun q hq => ⟨by omega, ((h.2 q).1 hq).1⟩) with h | h
  · omega
  · simp [h]
/-! Marking all that is reached, one by one. -/
/-- What one visit leaves marked. -/
def Vis (M : List St) (a : Nat) (seen seen' : List Bool) : Prop :=
  seen'.length = seen.length ∧ (∀ i, seen.getD i false = true → seen'.getD i false = true) ∧ seen'.getD a false = true ∧
    (∀ u, seen'.getD u false = true → seen.getD u false = false → Reach M a u ∧ ∀ s : St, M[u]? = some s → s.reads = false → ∀ t, t ∈ s.next → seen'.getD t false = true)
/-- What a row of visits leaves marked. -/
def Viss (M : List St) (as_ : List Nat) (seen seen' : List Bool) : Prop :=
  seen'.length = seen.length ∧ (∀ i, seen.getD i false = true → seen'.getD i false = true) ∧ (∀ a, a ∈ as_ → seen'.getD a false = true) ∧
    (∀ u, seen'.getD u false = true → seen.getD u false = false → (∃ a, a ∈ as_ ∧ Reach M a u) ∧ ∀ s : St, M[u]? = some s → s.reads = false → ∀ t, t ∈ s.next → seen'.getD t false = true)
theorem Viss.nil (M : List St) (seen : List Bool) : Viss M [] seen seen := ⟨rfl, fun _ h => h, fun a h => by simp at h, fun u h1 h2 => by rw [h1] at h2; cases h2⟩
theorem Viss.snoc {M : List St} {as_ : List Nat} {a : Nat} {s0 s1 s2 : List Bool} (h : Viss M as_ s0 s1) (k : Vis M a s1 s2) : Viss M (as_ ++ [a]) s0 s2 := by
  obtain ⟨h1, h2, h3, h4⟩ := h
  obtain ⟨k1, k2, k3, k4⟩ := k
  refine ⟨k1.trans h1, fun i hi => k2 i (h2 i hi), fun b hb => ?_, fun u hu hn => ?_⟩
  · rcases List.mem_append.1 hb with hb | hb
    · exact k2 b (h3 b hb)
    · obtain rfl : b = a := by simpa using hb
      exact k3
  · cases hs : s1.getD u false with
    | true =>
      obtain ⟨⟨b, hb, hr⟩, hc⟩ := h4 u hs hn
      exact ⟨⟨b, by simp [hb], hr⟩, fun s q1 q2 t ht => k2 t (hc s q1 q2 t ht)⟩
    | false =>
      obtain ⟨hr, hc⟩ := k4 u hu hs
      exact ⟨⟨a, by simp, hr⟩, hc⟩
theorem getD_set (l : List Bool) (i j : Nat) (hi : i < l.length) : (l.set i true).getD j false = if i = j then true else l.getD j false := by
  rw [List.getD_eq_getElem?_getD, List.getD_eq_getElem?_getD, List.getElem?_set]
  by_cases h : i = j
  · subst h; simp [hi]
  · simp [h]
/-- A state that reads is marked, and no more. -/
theorem vis_reads {M : List St} {a : Nat} {seen : List Bool} {s : St} (ha : a < seen.length) (hs : M[a]? = some s) (hr : s.reads = true) : Vis M a seen (seen.set a true) := by
  refine ⟨by simp, fun i hi => ?_, ?_, fun u hu hn => ?_⟩
  · rw [getD_set _ _ _ ha]; split <;> simp_all
  · rw [getD_set _ _ _ ha]; simp
  · rw [getD_set _ _ _ ha] at hu
    by_cases h : a = u
    · subst h
      exact ⟨Reach.refl _ _, fun s' h1 h2 => by rw [hs] at h1; cases h1; rw [hr] at h2; cases h2⟩
    · rw [if_neg h, hn] at hu; cases hu
theorem vis_seen {M : List St} {a : Nat} {seen : List Bool} (h : seen.getD a false = true) : Vis M a seen seen := ⟨rfl, fun _ h => h, h, fun u h1 h2 => by rw [h1] at h2; cases h2⟩
theorem vis_goes {M : List St} {a : Nat} {seen seen' : List Bool} {s : St} (ha : a < seen.length) (hs : M[a]? = some s) (hr : s.reads = false) (h : Viss M s.next (seen.set a true) seen') : Vis M a seen seen' := by
  obtain ⟨h1, h2, h3, h4⟩ := h
  have hself : seen'.getD a false = true := h2 a (by rw [getD_set _ _ _ ha]; simp)
  refine ⟨by simpa using h1, fun i hi => h2 i (by rw [getD_set _ _ _ ha]; split <;> simp_all), hself, fun u hu hn => ?_⟩
  by_cases h : a = u
  · subst h
    refine ⟨Reach.refl _ _, fun s' q1 _ t ht => ?_⟩
    rw [hs] at q1; cases q1
    exact h3 t ht
  · obtain ⟨⟨b, hb, hrb⟩, hc⟩ := h4 u hu (by rw [getD_set _ _ _ ha, if_neg h]; exact hn)
    exact ⟨Reach.step hs hr hb hrb, hc⟩
def unseen (l : List Bool) : Nat := (l.filter (fun b => !b)).length
theorem unseen_set : (l : List Bool) → (i : Nat) → i < l.length → l.getD i false = false → unseen (l.set i true) + 1 = unseen l
  | [], i, h, _ => by simp at h
  | b :: r, 0, _, h => by
    simp at h
    subst h
    simp [unseen]
  | b :: r, i + 1, hi, h => by
    have ih := unseen_set r i (by simpa using hi) (by simpa using h)
    cases b <;> simp [unseen] at ih ⊢ <;> omega
theorem unseen_mono : (a b : List Bool) → b.length = a.length → (∀ i, a.getD i false = true → b.getD i false = true) → unseen b ≤ unseen a
  | [], [], _, _ => Nat.le_refl _
  | x :: a, y :: b, hl, h => by
    have ih := unseen_mono a b (by simpa using hl) (fun i hi => by have := h (i + 1) (by simpa using hi); simpa using this)
    have h0 := h 0
    cases x <;> cases y <;> simp [unseen] at ih h0 ⊢ <;> omega
  | [], _ :: _, hl, _ => by simp at hl
  | _ :: _, [], hl, _ => by simp at hl
/-- All that is marked, from nothing on, is just what is reached. -/
theorem viss_reach {M : List St} {as_ : List Nat} {seen seen' : List Bool} (h : Viss M as_ seen seen') (h0 : ∀ i, seen.getD i false = false) (u : Nat) : seen'.getD u false = true ↔ ∃ a, a ∈ as_ ∧ Reach M a u := by
  obtain ⟨_, _, h3, h4⟩ := h
  constructor
  · intro hu
    exact (h4 u hu (h0 u)).1
  · rintro ⟨a, ha, k, hk⟩
    have key : (k : Nat) → ∀ b, seen'.getD b false = true → ReachN M k b u → seen'.getD u false = true := by
      intro k
      induction k with
      | zero => intro b hb h; have h' : b = u := h; rw [← h']; exact hb
      | succ k ih =>
        intro b hb h
        rcases h with rfl | ⟨s, q1, q2, t, q3, q4⟩
        · exact hb
        · exact ih t ((h4 b hb (h0 b)).2 s q1 q2 t q3) q4
    exact key k a (h3 a ha) hk
end Go.Proofs.YtpmmmgjiekikeaaDoor

/- Plain mathematics of machines: pieces of a row of expressions, one by one; which expressions are right. -/
namespace Go.Proofs.YtpmmmgjiekikeaaDoor
set_option linter.unusedVariables false
set_option linter.unusedSimpArgs false

def piecesL : List Nd → List St → List St × List (Nat × Nat)
  | [], l => (l, [])
  | x :: r, l => ((piecesL r (x.piece l).1).1, (x.piece l).2 :: (piecesL r (x.piece l).1).2)
theorem piecesF_L : (f : Fo) → (l : List St) → piecesF f l = piecesL (toL f) l
  | .nil, l => rfl
  | .node _ _ a k r, l => by
    simp only [piecesF, toL, piecesL, piecesF_L r]
    rfl
theorem piecesL_snoc : (xs : List Nd) → (y : Nd) → (l : List St) → piecesL (xs ++ [y]) l = ((y.piece (piecesL xs l).1).1, (piecesL xs l).2 ++ [(y.piece (piecesL xs l).1).2])
  | [], y, l => rfl
  | x :: r, y, l => by simp only [List.cons_append, piecesL, piecesL_snoc r]
theorem piece_eq (n : Nd) (l : List St) : n.piece l = nodeP n.op n.cl (piecesL (toL n.kids) l).2 (piecesL (toL n.kids) l).1 := by
  unfold Nd.piece; rw [piecesF_L]
theorem right_kid : (f : Fo) → RightF f → ∀ x, x ∈ toL f → x.right
  | .nil, _, x, h => by simp [toL] at h
  | .node _ _ a k r, hf, x, h => by
    obtain ⟨h1, h2, h3, h4⟩ := hf
    simp only [toL, List.mem_cons] at h
    rcases h with rfl | h
    · exact ⟨h1, h2, h3, trivial⟩
    · exact right_kid r h4 x h
theorem rightF_of : (f : Fo) → (∀ x, x ∈ toL f → x.right) → RightF f
  | .nil, _ => trivial
  | .node _ _ a k r, h => by
    obtain ⟨h1, h2, h3, _⟩ := h ⟨a.1, a.2, k⟩ (by simp [toL])
    exact ⟨h1, h2, h3, rightF_of r (fun x hx => h x (by simp [toL, hx]))⟩
theorem rightF_ofL (xs : List Nd) (h : ∀ x, x ∈ xs → x.right) : RightF (ofL xs) := rightF_of _ (by rw [toL_ofL]; exact h)
theorem piecesL_struct (xs : List Nd) (h : ∀ x, x ∈ xs → x.right) (l : List St) : l.length ≤ (piecesL xs l).1.length ∧ PsIn l.length (piecesL xs l).1.length (piecesL xs l).2 ∧ (piecesL xs l).2.length = xs.length := by
  have h1 := pieces_struct (ofL xs) (rightF_ofL xs h) l
  rw [piecesF_L, toL_ofL] at h1
  exact ⟨h1.1, h1.2.2.1, h1.2.2.2⟩
/-- How many there are in some. -/
def cntL (l : List Nd) : Nat := (l.map Nd.cnt).sum
theorem cntF_sum : (f : Fo) → cntF f = ((toL f).map Nd.cnt).sum
  | .nil => rfl
  | .node _ _ a k r => by
    simp only [cntF, toL, List.map_cons, List.sum_cons, cntF_sum r]
    rfl
theorem cnt_eq (n : Nd) : n.cnt = 1 + cntL (toL n.kids) := by unfold Nd.cnt cntL; rw [cntF_sum]
theorem cntL_snoc (l : List Nd) (x : Nd) : cntL (l ++ [x]) = cntL l + x.cnt := by simp [cntL]
theorem take_snoc {α : Type} (l : List α) (k : Nat) (h : k < l.length) : l.take (k + 1) = l.take k ++ [l[k]] := by
  rw [List.take_add_one, List.getElem?_eq_getElem h]; rfl
theorem cntL_take (l : List Nd) (k : Nat) (hk : k < l.length) : cntL (l.take k) + l[k].cnt ≤ cntL l := by
  have ha : ∀ a b : List Nd, cntL (a ++ b) = cntL a + cntL b := fun a b => by simp [cntL]
  have h : cntL l = cntL (l.take (k + 1)) + cntL (l.drop (k + 1)) := by rw [← ha, List.take_append_drop]
  rw [h, take_snoc l k hk, cntL_snoc]
  omega
theorem cntL_len : (l : List Nd) → l.length ≤ cntL l
  | [] => Nat.le_refl _
  | x :: r => by
    have := cntL_len r
    have h : 1 ≤ x.cnt := by rw [cnt_eq]; omega
    simp only [cntL, List.map_cons, List.sum_cons, List.length_cons] at this ⊢
    omega
theorem sz_piecesL (xs : List Nd) (h : ∀ x, x ∈ xs → x.right) (l : List St) : szS (piecesL xs l).1 + 2 * xs.length ≤ szS l + 9 * cntL xs := by
  have h1 := sz_pieces (ofL xs) (rightF_ofL xs h) l
  rw [piecesF_L, toL_ofL, cntF_sum, toL_ofL] at h1
  exact h1
theorem wf_piecesL (xs : List Nd) (h : ∀ x, x ∈ xs → x.right) (l : List St) (hl : WfL l) : WfL (piecesL xs l).1 := by
  have h1 := wf_pieces (ofL xs) (rightF_ofL xs h) l hl
  rw [piecesF_L, toL_ofL] at h1
  exact h1
/-- The machine of an expression: what it keeps to, and how large it is. -/
theorem piece_wf (n : Nd) (h : n.right) : WfL (n.piece []).1 ∧ szS (n.piece []).1 ≤ 9 * n.cnt ∧ (n.piece []).2.1 < (n.piece []).1.length ∧ (n.piece []).2.2 < (n.piece []).1.length := by
  have h1 := wf_piecesL [n] (by simpa using h) [] (fun i s hs => by simp at hs)
  have h2 := sz_piecesL [n] (by simpa using h) []
  have h3 := (piecesL_struct [n] (by simpa using h) []).2.1.1 (n.piece []).2 (by simp [piecesL])
  simp [piecesL, cntL, szS] at h1 h2 h3
  exact ⟨h1, by simp [szS]; omega, h3.1, h3.2⟩

/-- May an expression have so many parts? -/
def rcB (op : Int) (k : Nat) : Bool := if op = 0 ∨ op = 1 then decide (k = 0) else if op = 2 ∨ op = 3 then true else if op = 4 ∨ op = 5 then decide (k = 1) else false
/-- Rising classes that there are. -/
def risB (last : Int) : List Int → Bool
  | [] => true
  | c :: r => decide (last < c) && decide (c < 24) && risB c r
def rclB (op : Int) (cl : List Int) : Bool := if op = 1 then risB (-1) cl else decide (cl.length = 0)
/-- Is an expression right that is no deeper than that? -/
def okN : Nat → Nd → Bool
  | 0, _ => false
  | d + 1, n => rcB n.op (toL n.kids).length && rclB n.op n.cl && (toL n.kids).all (okN d)
/-- Is an expression right? -/
def Nd.ok (n : Nd) : Bool := okN 32 n && decide (n.cnt ≤ 400)
theorem risB_mem : (l : List Int) → (a : Int) → risB a l = true → ∀ c, c ∈ l → a < c ∧ c ≤ 23
  | [], _, _, c, h => by simp at h
  | x :: r, a, h, c, hc => by
    simp only [risB, Bool.and_eq_true, decide_eq_true_eq] at h
    rcases List.mem_cons.1 hc with rfl | hc
    · omega
    · have := risB_mem r x h.2 c hc
      omega
theorem risB_len : (l : List Int) → (a : Int) → a ≤ 23 → risB a l = true → (l.length : Int) + a ≤ 23
  | [], a, h, _ => by simpa using h
  | x :: r, a, _, h => by
    simp only [risB, Bool.and_eq_true, decide_eq_true_eq] at h
    have := risB_len r x (by omega) h.2
    simp only [List.length_cons]
    omega
theorem right_of_ok : (d : Nat) → (n : Nd) → okN d n = true → n.right
  | 0, _, h => by simp [okN] at h
  | d + 1, n, h => by
    simp only [okN, Bool.and_eq_true, List.all_eq_true] at h
    obtain ⟨⟨h1, h2⟩, h3⟩ := h
    refine ⟨fun h45 => ?_, ?_, rightF_of _ (fun x hx => right_of_ok d x (h3 x hx)), trivial⟩
    · simp only at h45
      unfold rcB at h1
      rw [if_neg (by omega), if_neg (by omega), if_pos h45] at h1
      simpa using h1
    · show (∀ c, c ∈ n.cl → 0 ≤ c ∧ c ≤ 23) ∧ n.cl.length ≤ 1000
      unfold rclB at h2
      by_cases h1 : n.op = 1
      · rw [if_pos h1] at h2
        refine ⟨fun c hc => ?_, ?_⟩
        · have := risB_mem _ _ h2 c hc
          omega
        · have := risB_len _ _ (by omega) h2
          omega
      · rw [if_neg h1] at h2
        have h0 : n.cl = [] := by simpa using h2
        rw [h0]
        simp
theorem Nd.ok_right {n : Nd} (h : n.ok = true) : n.right ∧ n.cnt ≤ 400 := by
  unfold Nd.ok at h
  simp only [Bool.and_eq_true, decide_eq_true_eq] at h
  exact ⟨right_of_ok 32 n h.1, h.2⟩
end Go.Proofs.YtpmmmgjiekikeaaDoor

/- Expressions put together: in memory, whether they are right, what they fit; rows cut. -/
namespace Go.Proofs.YtpmmmgjiekikeaaDoor
open Go.RowKit
set_option linter.unusedVariables false
set_option linter.unusedSimpArgs false

theorem InV.node {B : Nat} {w : World} {d : Nat} (op : Int) (ns : List Nd) (b c : Nat) {cs : Array Value} {fr : Nat × Nat} {t : TypeId} (hb : w.heap[b]? = some (.cells cs t fr)) (hn : ns.length ≤ 2600000000000) (h : ∀ i (hi : i < ns.length), ∃ us, InV B w d ns[i] us ∧ ∀ j v, us[j]? = some v → cs[i * 3 + j]? = some v) :
    InV B w (d + 1) ⟨op, [], ofL ns⟩ [.int .i64 op, .slice none 0 0, .slice (some ⟨b, 0, none⟩) ns.length c] := by
  refine ⟨none, 0, some ⟨b, 0, none⟩, c, ?_, rd_nil _ _, fun h => by simp at h, ⟨by simp, fun _ => rfl⟩, ?_, fun hp => ⟨b, 0, rfl, fun i hi => ?_⟩⟩
  · show [Value.int .i64 op, .slice none 0 0, .slice (some ⟨b, 0, none⟩) ns.length c] = [Value.int .i64 op, .slice none 0 0, .slice (some ⟨b, 0, none⟩) (toL (ofL ns)).length c]
    rw [toL_ofL]
  · show (toL (ofL ns)).length ≤ _
    rw [toL_ofL]; exact hn
  · have hi' : i < ns.length := by
      have h2 : i < (toL (ofL ns)).length := hi
      rwa [toL_ofL] at h2
    obtain ⟨us, h1, h2⟩ := h i hi'
    have e : (toL (ofL ns))[i]'hi = ns[i] := by simp only [toL_ofL]
    refine ⟨us, ?_, fun j v hv => ?_⟩
    · show InV B w d ((toL (ofL ns))[i]'hi) us
      rw [e]; exact h1
    · rw [cell_of_row w b _ _ _ _ hb, Nat.zero_add]
      exact h2 j v hv
theorem new_at2 (w : World) (o1 o2 : Obj) : ((w.alloc o1).alloc o2).heap[w.heap.size + 1]? = some o2 := by
  have := heap_alloc_new (w.alloc o1) o2
  rw [show (w.alloc o1).heap.size = w.heap.size + 1 by simp] at this
  exact this
/-! How deep. -/
theorem deepF_fold : (f : Fo) → (m : Nat) → (toL f).foldl (fun m x => max m x.deep) m = max m (deepF f)
  | .nil, m => by simp [toL, deepF]
  | .node _ _ a k r, m => by
    simp only [toL, List.foldl_cons, deepF_fold r, deepF]
    show max (max m (deepF k + 1)) (deepF r) = _
    omega
theorem deep_eq (n : Nd) : n.deep = (toL n.kids).foldl (fun m x => max m x.deep) 0 + 1 := by
  rw [deepF_fold]; simp [Nd.deep]
theorem deepF_le : (f : Fo) → deepF f ≤ cntF f
  | .nil => Nat.le_refl _
  | .node _ _ a k r => by
    have h1 := deepF_le k
    have h2 := deepF_le r
    simp only [deepF, cntF]
    omega
theorem deep_le (n : Nd) : n.deep ≤ n.cnt := by
  have := deepF_le n.kids
  unfold Nd.deep Nd.cnt
  omega
theorem deep_kid (n : Nd) (x : Nd) (h : x ∈ toL n.kids) : x.deep + 1 ≤ n.deep := by
  have := deep_mem n.kids x h
  unfold Nd.deep at this ⊢
  omega
theorem okN_deep : (d : Nat) → (n : Nd) → okN d n = true → (e : Nat) → n.deep ≤ e → okN e n = true
  | 0, _, h, _, _ => by simp [okN] at h
  | d + 1, n, h, 0, he => by simp [Nd.deep] at he
  | d + 1, n, h, e + 1, he => by
    simp only [okN, Bool.and_eq_true, List.all_eq_true] at h ⊢
    refine ⟨h.1, fun x hx => okN_deep d x (h.2 x hx) e ?_⟩
    have := deep_kid n x hx
    omega

theorem three_cells {x0 x1 x2 : Value} {cs : Array Value} {i : Nat} (h0 : cs[i * 3]? = some x0) (h1 : cs[i * 3 + 1]? = some x1) (h2 : cs[i * 3 + 2]? = some x2) : ∀ (j : Nat) (v : Value), [x0, x1, x2][j]? = some v → cs[i * 3 + j]? = some v := by
  intro j v hv
  match j, hv with
  | 0, hv => simp at hv; subst hv; exact h0
  | 1, hv => simp at hv; subst hv; exact h1
  | 2, hv => simp at hv; subst hv; exact h2
  | (k + 3), hv => simp at hv
theorem in_up {V : World} {d : Nat} {x : Nd} {vs : List Value} (h : InV V.heap.size V d x vs) (o : Obj) : InV (V.alloc o).heap.size (V.alloc o) d x vs :=
  (h.later ((Below.refl _ V).alloc (Nat.le_refl _) _) d).base (by simp) d
theorem in_one {V : World} {d : Nat} {x : Nd} {x0 x1 x2 : Value} (op : Int) (hx : InV V.heap.size V d x [x0, x1, x2]) : InV (V.alloc (.cells #[x0, x1, x2] 38)).heap.size (V.alloc (.cells #[x0, x1, x2] 38)) (d + 1) ⟨op, [], ofL [x]⟩ [.int .i64 op, .slice none 0 0, .slice (some ⟨V.heap.size, 0, none⟩) 1 1] :=
  InV.node op [x] V.heap.size 1 (heap_alloc_new V _) (by simp) (fun i hi => by
    have h0 : i = 0 := by simp at hi; exact hi
    subst h0
    exact ⟨_, in_up hx _, three_cells rfl rfl rfl⟩)
theorem in_pair {V : World} {d : Nat} {x y : Nd} {x0 x1 x2 y0 y1 y2 : Value} (op : Int) (hx : InV V.heap.size V d x [x0, x1, x2]) (hy : InV V.heap.size V d y [y0, y1, y2]) : InV (V.alloc (.cells #[x0, x1, x2, y0, y1, y2] 38)).heap.size (V.alloc (.cells #[x0, x1, x2, y0, y1, y2] 38)) (d + 1) ⟨op, [], ofL [x, y]⟩ [.int .i64 op, .slice none 0 0, .slice (some ⟨V.heap.size, 0, none⟩) 2 2] :=
  InV.node op [x, y] V.heap.size 2 (heap_alloc_new V _) (by simp) (fun i hi => by
    match i, hi with
    | 0, _ => exact ⟨_, in_up hx _, three_cells rfl rfl rfl⟩
    | 1, _ => exact ⟨_, in_up hy _, three_cells rfl rfl rfl⟩)
theorem in_three {V : World} {d : Nat} {x y z : Nd} {x0 x1 x2 y0 y1 y2 z0 z1 z2 : Value} (op : Int) (hx : InV V.heap.size V d x [x0, x1, x2]) (hy : InV V.heap.size V d y [y0, y1, y2]) (hz : InV V.heap.size V d z [z0, z1, z2]) : InV (V.alloc (.cells #[x0, x1, x2, y0, y1, y2, z0, z1, z2] 38)).heap.size (V.alloc (.cells #[x0, x1, x2, y0, y1, y2, z0, z1, z2] 38)) (d + 1) ⟨op, [], ofL [x, y, z]⟩ [.int .i64 op, .slice none 0 0, .slice (some ⟨V.heap.size, 0, none⟩) 3 3] :=
  InV.node op [x, y, z] V.heap.size 3 (heap_alloc_new V _) (by simp) (fun i hi => by
    match i, hi with
    | 0, _ => exact ⟨_, in_up hx _, three_cells rfl rfl rfl⟩
    | 1, _ => exact ⟨_, in_up hy _, three_cells rfl rfl rfl⟩
    | 2, _ => exact ⟨_, in_up hz _, three_cells rfl rfl rfl⟩)
/-! Which are right. -/
theorem okN_node (op : Int) (ns : List Nd) (d : Nat) (hr : rcB op ns.length = true) (hop : ¬ op = 1) (h : ∀ x, x ∈ ns → okN d x = true) : okN (d + 1) ⟨op, [], ofL ns⟩ = true := by
  simp only [okN, Bool.and_eq_true, List.all_eq_true]
  rw [toL_ofL]
  exact ⟨⟨hr, by simp [rclB, hop]⟩, h⟩
theorem cnt_node (op : Int) (ns : List Nd) : (⟨op, [], ofL ns⟩ : Nd).cnt = 1 + cntL ns := by
  rw [cnt_eq]
  show 1 + cntL (toL (ofL ns)) = _
  rw [toL_ofL]
theorem ok_mk {n : Nd} (h1 : okN 32 n = true) (h2 : n.cnt ≤ 400) : n.ok = true := by
  unfold Nd.ok; simp [h1, h2]
/-! What they fit. -/
theorem fits_node (op : Int) (ns : List Nd) (w : List Int) : (⟨op, [], ofL ns⟩ : Nd).fits w ↔ nodeL op [] (ns.map Nd.fits) w := by
  show nodeL op [] (fitF (ofL ns)) w ↔ _
  rw [fitF_map, toL_ofL]
theorem fits_seq (ns : List Nd) (w : List Int) : (⟨2, [], ofL ns⟩ : Nd).fits w ↔ seqL (ns.map Nd.fits) w := by rw [fits_node]; simp [nodeL]
theorem fits_alt (ns : List Nd) (w : List Int) : (⟨3, [], ofL ns⟩ : Nd).fits w ↔ ∃ n, n ∈ ns ∧ n.fits w := by
  rw [fits_node]
  show altL (ns.map Nd.fits) w ↔ _
  unfold altL
  constructor
  · rintro ⟨k, hk, h⟩
    obtain ⟨n, hn, rfl⟩ := List.mem_map.1 hk
    exact ⟨n, hn, h⟩
  · rintro ⟨n, hn, h⟩
    exact ⟨_, List.mem_map.2 ⟨n, hn, rfl⟩, h⟩
theorem fits_star (n : Nd) (w : List Int) : (⟨4, [], ofL [n]⟩ : Nd).fits w ↔ ∃ i, powL n.fits i w := by rw [fits_node]; simp [nodeL]
theorem fits_opt (n : Nd) (w : List Int) : (⟨5, [], ofL [n]⟩ : Nd).fits w ↔ w = [] ∨ n.fits w := by rw [fits_node]; simp [nodeL]
theorem seqL_two (k l : List Int → Prop) (w : List Int) : seqL [k, l] w ↔ ∃ u v, w = u ++ v ∧ k u ∧ l v := by
  simp only [seqL]
  constructor
  · rintro ⟨u, v, h1, h2, u', v', h3, h4, rfl⟩
    exact ⟨u, v, h1, h2, by rw [h3]; simpa using h4⟩
  · rintro ⟨u, v, h1, h2, h3⟩
    exact ⟨u, v, h1, h2, v, [], by simp, h3, rfl⟩
theorem cut_iff (k l : List Int → Prop) (w : List Int) : (∃ u v, w = u ++ v ∧ k u ∧ l v) ↔ ∃ i, i ≤ w.length ∧ k (w.take i) ∧ l (w.drop i) := by
  constructor
  · rintro ⟨u, v, rfl, h1, h2⟩
    exact ⟨u.length, by simp, by simpa using h1, by simpa using h2⟩
  · rintro ⟨i, _, h1, h2⟩
    exact ⟨w.take i, w.drop i, by simp, h1, h2⟩
theorem star_twice (k : List Int → Prop) (w : List Int) : (∃ i, powL k i w) ↔ (∃ u v, w = u ++ v ∧ k u ∧ ∃ i, powL k i v) ∨ w = [] := by
  constructor
  · rintro ⟨i, h⟩
    cases i with
    | zero => exact .inr h
    | succ i =>
      obtain ⟨u, v, h1, h2, h3⟩ := h
      exact .inl ⟨u, v, h1, h2, i, h3⟩
  · rintro (⟨u, v, h1, h2, i, h3⟩ | rfl)
    · exact ⟨i + 1, u, v, h1, h2, h3⟩
    · exact ⟨0, rfl⟩

/-! Rows cut. -/
theorem cutI (a : Option Addr) (len cap n : Nat) (h : n ≤ cap) (W : World) : (Instr.slice 35 (.slice a len cap) none (some (.int .i64 n)) none).run Tryd.prog W = .ok (.slice a n cap) W := by
  have h0 : (0 : Int) ≤ (n : Int) := by omega
  have h1 : (n : Int) ≤ (cap : Int) := by omega
  go_simp
theorem cutI_from {a : Option Addr} {len cap : Nat} (lo : Nat) (h2 : lo ≤ len) (h3 : len ≤ cap) : ∃ a', (∀ W, (Instr.slice 35 (.slice a len cap) (some (.int .i64 lo)) none none).run Tryd.prog W = .ok (.slice a' (len - lo) (cap - lo)) W) ∧ ∀ (w : World) (xs : List Int), Rd .i64 w a len xs → Rd .i64 w a' (len - lo) (xs.drop lo) := by
  refine ⟨if cap = lo then a else a.map (·.add lo), fun W => ?_, fun w xs h => ⟨by have := h.1; simp; omega, fun hp => ?_⟩⟩
  · have g0 : (0 : Int) ≤ (lo : Int) := by omega
    have g1 : (lo : Int) ≤ (len : Int) := by omega
    go_simp
  · obtain ⟨b, off, rfl, hc⟩ := h.2 (by omega)
    rw [if_neg (by omega)]
    refine ⟨b, off + lo, by simp [add_lit], fun i hi' => ?_⟩
    rw [show off + lo + i = off + (lo + i) by omega, hc (lo + i) (by omega)]
    simp
theorem bdN {B : Nat} {w w' : World} (h : Below B w w') (n : Nat) : Below B w (w'.drewN n) := ⟨h.os, h.tape, h.output, h.size, h.block⟩
theorem own_up {w : World} {B B' : Nat} {e : TypeId} {s : Nat} {v : Value} {n : Nat} {xs : List Value} (h : w.ownsRow B' e s v n xs) (hB : B ≤ B') : w.ownsRow B e s v n xs := by
  refine ⟨h.1, ?_⟩
  rcases h.2 with hn | ⟨g, cap, cur, hv, hb, rest⟩
  · exact .inl hn
  · exact .inr ⟨g, cap, cur, hv, Nat.le_trans hB hb, rest⟩
end Go.Proofs.YtpmmmgjiekikeaaDoor
