/- In one text: BasS, BasR, ReaM, BasN, NfaM, NfaN, NfaO, NfaP, BasP, WinA. -/
import Derived.Test.YtclogekfdmikpaaDoorProg
import Derived.WalkKit
import Derived.WalkLawsBesides
import Derived.Carry
import Derived.Deep.AppendLies
import Derived.LoopN
import Derived.Laws.BytesArg
import Derived.Laws.AppendOwnNone
import Derived.Lib.Strings
import Derived.Lib.AppendStr
import Derived.Deep.RegionWith
import Derived.Deep.RegionLaw
import Derived.Deep.Trees
import Derived.Deep.DeepAppendWide
import Derived.Laws.Rows
import Derived.Lib.Builder
import Derived.Deep.DeepCutAuto
import Derived.BigQuiet
import Derived.Laws.ResultCell
import Derived.Laws.MakeOwn
import Derived.Deep.RegionHeld3
import Derived.Deep.Slices
import Derived.ChangeSame
import Derived.ChangeSlices
import GoSem.ClaimJoined
import Derived.Laws.IdiomCopy
import Derived.Laws.NewBlocks
import Derived.Lib.Overlaps
import Derived.Lib.SliceRun
import Derived.Lib.AppendZerosOnto
import Derived.Shelf.Spec.SlicesInsertGrow
/- What serves every layer that has no rows of bytes: rows of numbers that can be read in memory, strings as rows of numbers; no function of the program is named here. -/
namespace Go.Proofs.YtclogekfdmikpaaDoor
open Go.RowKit
set_option linter.unusedVariables false

def Rd (k : IntKind) (w : World) (a : Option Addr) (len : Nat) (xs : List Int) : Prop :=
 xs.length = len ∧ (0 < len → ∃ b off, a = some ⟨b, off, none⟩ ∧ ∀ i, i < len → w.cell? ⟨b, off + i, none⟩ = some (.int k (xs.getD i 0)))
theorem Rd.later {k : IntKind} {w w' : World} {a : Option Addr} {len : Nat} {xs : List Int} (h : Rd k w a len xs) (hb : Below w.heap.size w w') : Rd k w' a len xs := by
 refine ⟨h.1, fun hp => ?_⟩
 obtain ⟨b, off, ha, hc⟩ := h.2 hp
 refine ⟨b, off, ha, fun i hi => ?_⟩
 exact (hb.cell (p := ⟨b, off + i, none⟩) (World.block_lt_of_cell? w _ (hc i hi))).trans (hc i hi)
theorem Rd.take {k : IntKind} {w : World} {a : Option Addr} {len : Nat} {xs : List Int} (h : Rd k w a len xs) (n : Nat) (hn : n ≤ len) : Rd k w a n (xs.take n) := by
 refine ⟨by have := h.1; simp; omega, fun hp => ?_⟩
 obtain ⟨b, off, ha, hc⟩ := h.2 (by omega)
 refine ⟨b, off, ha, fun i hi => ?_⟩
 rw [hc i (by omega)]
 simp [hi]
theorem rd_own {k : IntKind} {w : World} {B : Nat} {e : TypeId} {v : Value} {n : Nat} {xs : List Int} (h : w.ownsRow B e 1 v n (xs.map (Value.int k))) :
 ∃ a cap, v = .slice a n cap ∧ n ≤ cap ∧ cap ≤ 9223372036854775807 ∧ Rd k w a n xs := by
 have hl : xs.length = n := by simpa using h.1
 rcases h.2 with ⟨rfl, rfl⟩ | ⟨g, cap, cur, rfl, hb, hg, hn, hm, hs, ht⟩
 ·exact ⟨none, 0, rfl, by omega, by omega, hl, fun hp => absurd hp (by omega)⟩
 ·refine ⟨_, cap, rfl, hn, by simpa [maxLen] using hm, hl, fun hp => ⟨g, 0, rfl, fun i hi => ?_⟩⟩
  rw [cell_of_row w g (0 + i) cur e (0, 0) hg]
  have h1 : (cur.toList.take (n * 1))[i]? = (xs.map (Value.int k))[i]? := by rw [ht]
  rw [List.getElem?_take, if_pos (by omega)] at h1
  simp at h1 ⊢
  rw [h1]
  simp [show i < xs.length by omega]
theorem add_zero (a : Option Addr) (c : Nat) : (if c = 0 then a else a.map (·.add 0)) = a := by
 split
 ·rfl
 ·cases a with
  | none => rfl
  | some x => cases x; simp [Addr.add]
theorem min_run (len n : Nat) (c : Int) (h : (n : Int) = min (len : Int) c) (W : World) : (Builtin.min_ #[3, 3] 3 #[.int .i64 len, .int .i64 c]).run Tryd.prog W = .ok (.int .i64 n) W := by
 rw [run_min_int2, h]
 congr 2
 split <;> omega
theorem rd_row {k : IntKind} {w : World} {a : Option Addr} {len cap : Nat} {zs : List Int}
 (h : (a = none ∧ len = 0 ∧ cap = 0 ∧ zs = []) ∨ ∃ x, a = some x ∧ len ≤ cap ∧ cap ≤ maxLen ∧ zs.length = cap ∧ (∀ i, i < zs.length → w.cell? (x.add i) = some (.int k (zs.getD i 0))) ∧ ∀ n ∈ zs, (Lit.int k n).wf = true) :
 len ≤ cap ∧ cap ≤ 9223372036854775807 ∧ (∀ n, n ≤ len → Rd k w a n (zs.take n)) ∧ ∀ n ∈ zs, (Lit.int k n).wf = true := by
 rcases h with ⟨rfl, rfl, rfl, rfl⟩ | ⟨x, rfl, h1, h2, h3, h4, h5⟩
 ·exact ⟨by omega, by omega, fun n hn => ⟨by simp; omega, fun hp => absurd hp (by omega)⟩, by simp⟩
 ·refine ⟨h1, by simpa [maxLen] using h2, fun n hn => ⟨by simp; omega, fun hp => ?_⟩, h5⟩
  obtain ⟨b, off, spot⟩ := x
  have h40 := h4 0 (by omega)
  have hspot : spot = none := by simpa [Addr.add] using World.cell?_spot h40
  subst hspot
  refine ⟨b, off, rfl, fun i hi => ?_⟩
  have := h4 i (by omega)
  have e : (⟨b, off, none⟩ : Addr).add i = ⟨b, off + i, none⟩ := by unfold Addr.add; split <;> simp_all
  rw [e] at this
  rw [this]
  simp [hi]
theorem rd_news {k : IntKind} {w : World} {x : Addr} {m : Nat} {ns : List Int} (h : Rd k w (some x) m ns) : ∀ (j : Nat) (u : Value), (ns.map (Value.int k))[j]? = some u → w.cell? (x.add j) = some u := by
 intro j u hu
 have hj : j < ns.length := by
  rcases Nat.lt_or_ge j ns.length with h | h
  ·exact h
  ·simp [List.getElem?_eq_none h] at hu
 obtain ⟨b, off, hx, hc⟩ := h.2 (by have := h.1; omega)
 cases hx
 have e : (⟨b, off, none⟩ : Addr).add j = ⟨b, off + j, none⟩ := by unfold Addr.add; split <;> simp_all
 rw [e, hc j (by have := h.1; omega)]
 simp [hj] at hu
 simp [hj, hu]
theorem wpList_append_rd {P : Program} {w : World} {ops : Array Oper} {rest : List Oper} {o : Oper} {a : Act} {Q : Exit → Act → World → Prop} (hgd : o.guard = none) (s x : Operand) (t : TypeId)
 (ho : o.op = .call { callee := .builtin .append, args := #[s, x], argTypes := #[t, t] })
 (base : Nat) (e : TypeId) (i : TypeInfo) (z : Value) (bytes : Nat) (ht : P.underlying t = some (.slice e)) (hi : P.info? e = some i) (hz : i.zero = some z)
 (hsize : i.size = 1) (hby : i.bytes = bytes) (hzs : z.cells.size = 1)
 (v : Value) (n : Nat) (xs : List Value) (hs : a.eval s = v) (hown : w.ownsRow base e 1 v n xs)
 (ad : Option Addr) (m c : Nat) (k : IntKind) (ns : List Int) (hx : a.eval x = .slice ad m c) (hrd : Rd k w ad m ns) (hnone : ad = none → c = 0)
 (h63 : n + m ≤ maxLen) (hbytes : (n + m) * bytes ≤ 140737488355328) (hbase : base ≤ w.heap.size)
 (h : ∀ v' w', w'.ownsRow base e 1 v' (n + m) (xs ++ ns.map (Value.int k)) → w.grownBy w' v.ownBlock → wpList P ops Q rest (a.put o.dst v') w') : wpList P ops Q (o :: rest) a w := by
 cases ad with
 | none =>
   have hm : m = 0 := by
    rcases Nat.eq_zero_or_pos m with h0 | h0
    ·exact h0
    ·obtain ⟨b, off, hx, _⟩ := hrd.2 h0; cases hx
   subst hm
   have hn : ns = [] := by have := hrd.1; cases ns with
    | nil => rfl
    | cons _ _ => simp at this
   subst hn
   rw [hnone rfl] at hx
   exact wpList_append_own_none hgd s x t ho base e i 1 ht hi v n xs hs hown hx (h v w (by simpa using hown) ⟨rfl, rfl, rfl, Nat.le_refl _, fun _ _ _ => rfl⟩)
 | some x' =>
   exact wpList_append_own _ hgd s x t ho base e i z 1 bytes ht hi hz hsize hby hzs (by decide) v n xs hs hown x' m c (ns.map (Value.int k)) hx (by simpa using hrd.1) (rd_news hrd) (by simp [Value.oneCell']) h63 hbytes hbase
    (fun v' w' h1 h2 _ => h v' w' h1 h2)
theorem and_low (n m : Int) (j : Nat) (hj : j ≤ 20) (hm : (BitVec.ofInt 64 m).toNat = 2 ^ j - 1) : bits .and .i64 n m = n % 2 ^ j := by
 have key : (BitVec.ofInt 64 n &&& BitVec.ofInt 64 m).toNat = (n % ((2 ^ 64 : Nat) : Int)).toNat % 2 ^ j := by
  rw [BitVec.toNat_and, BitVec.toNat_ofInt, hm, Nat.and_two_pow_sub_one_eq_mod]
 show IntKind.i64.wrap ((BitVec.ofInt 64 n &&& BitVec.ofInt 64 m).toNat : Nat) = n % 2 ^ j
 rw [key, IntKind.wrap_i64]
 have hd : ((2 ^ j : Nat) : Int) ∣ ((2 ^ 64 : Nat) : Int) := by
  have : (2 ^ j : Nat) ∣ (2 ^ 64 : Nat) := Nat.pow_dvd_pow 2 (by omega)
  exact_mod_cast this
 have h0 : 0 ≤ n % ((2 ^ 64 : Nat) : Int) := Int.emod_nonneg _ (by decide)
 have h1 : (((n % ((2 ^ 64 : Nat) : Int)).toNat % 2 ^ j : Nat) : Int) = n % 2 ^ j := by
  rw [Int.natCast_emod, Int.toNat_of_nonneg h0, Int.emod_emod_of_dvd n hd]; simp
 have h2 : ((n % ((2 ^ 64 : Nat) : Int)).toNat % 2 ^ j : Nat) < 2 ^ j := Nat.mod_lt _ (Nat.two_pow_pos j)
 have h3 : (2 : Nat) ^ j ≤ 2 ^ 20 := Nat.pow_le_pow_right (by decide) hj
 rw [h1]
 rw [← h1]
 generalize ((n % ((2 ^ 64 : Nat) : Int)).toNat % 2 ^ j : Nat) = q at *
 omega
theorem map_inj : (xs ys : List Int) → (∀ y ∈ xs, 0 ≤ y ∧ y ≤ 255) → (∀ y ∈ ys, 0 ≤ y ∧ y ≤ 255) → (xs.map fun n => UInt8.ofNat n.toNat) = (ys.map fun n => UInt8.ofNat n.toNat) → xs = ys
 | [], [], _, _, _ => rfl
 | [], _ :: _, _, _, h => by simp at h
 | _ :: _, [], _, _, h => by simp at h
 | x :: xs, y :: ys, hx, hy, h => by
   simp only [List.map_cons, List.cons.injEq] at h
   have h1 := hx x (by simp)
   have h2 := hy y (by simp)
   have e := congrArg UInt8.toNat h.1
   simp at e
   rw [map_inj xs ys (fun z hz => hx z (by simp [hz])) (fun z hz => hy z (by simp [hz])) h.2, show x = y by omega]
theorem add_lit (b off n : Nat) : (⟨b, off, none⟩ : Addr).add n = ⟨b, off + n, none⟩ := by unfold Addr.add; split <;> simp_all
theorem rd_own2 {k : IntKind} {w : World} {B : Nat} {e : TypeId} {v : Value} {n : Nat} {xs : List Int} (h : w.ownsRow B e 1 v n (xs.map (Value.int k))) :
 ∃ a cap, v = .slice a n cap ∧ n ≤ cap ∧ cap ≤ 9223372036854775807 ∧ Rd k w a n xs ∧ (a = none → cap = 0) := by
 obtain ⟨a, cap, rfl, h1, h2, h3⟩ := rd_own h
 refine ⟨a, cap, rfl, h1, h2, h3, fun ha => ?_⟩
 subst ha
 rcases h.2 with ⟨hv, _⟩ | ⟨g, cap', cur, hv, _⟩
 ·cases hv; rfl
 ·cases hv
theorem i64_of_wf {a : Int} (h : (Lit.int .i64 a).wf = true) : -9223372036854775808 ≤ a ∧ a ≤ 9223372036854775807 := by
 simp [Lit.wf, IntKind.min, IntKind.max, IntKind.bits, IntKind.signed] at h
 omega
theorem rd_nil (k : IntKind) (w : World) : Rd k w none 0 [] := ⟨rfl, fun h => absurd h (by omega)⟩
theorem Rd.drew {k : IntKind} {w : World} {a : Option Addr} {n : Nat} {xs : List Int} (h : Rd k w a n xs) : Rd k w.drew a n xs := h.later (Below.refl _ _).drew
theorem rd_none {k : IntKind} {w : World} {a : Option Addr} {n : Nat} {xs : List Int} (h : Rd k w a n xs) : a = none → n = 0 := by
 intro ha
 rcases Nat.eq_zero_or_pos n with h0 | h0
 ·exact h0
 ·obtain ⟨b, off, hb, _⟩ := h.2 h0
  rw [ha] at hb; cases hb
end Go.Proofs.YtclogekfdmikpaaDoor

/- What serves regions that draw their order and hold an append: the append as one step, whatever the source; rows of the call's own under a lower base. -/
namespace Go.Proofs.YtclogekfdmikpaaDoor
open Go.RowKit
set_option linter.unusedVariables false

theorem own_base {w : World} {B B' : Nat} {e : TypeId} {size : Nat} {v : Value} {n : Nat} {xs : List Value} (h : w.ownsRow B e size v n xs) (hb : B' ≤ B) : w.ownsRow B' e size v n xs := by
 refine ⟨h.1, ?_⟩
 rcases h.2 with h | ⟨g, cap, cur, h1, h2, h3⟩
 ·exact .inl h
 ·exact .inr ⟨g, cap, cur, h1, Nat.le_trans hb h2, h3⟩
end Go.Proofs.YtclogekfdmikpaaDoor

/- Plain mathematics of reading: expressions, what a marked expression tells along a text, where rules fit; nothing of the program is named here. -/
namespace Go.Proofs.YtclogekfdmikpaaDoor
set_option linter.unusedVariables false

abbrev Fo := Go.Deep.BT (Int × List Int)
structure Nd where
 op : Int
 cl : List Int
 kids : Fo
def toL : Fo → List Nd
 | .nil => []
 | .node _ _ a k r => ⟨a.1, a.2, k⟩ :: toL r
def ofL : List Nd → Fo
 | [] => .nil
 | n :: r => .node 0 0 (n.op, n.cl) n.kids (ofL r)
theorem toL_ofL : (l : List Nd) → toL (ofL l) = l
 | [] => rfl
 | n :: r => by simp [ofL, toL, toL_ofL r]
def deepF : Fo → Nat
 | .nil => 0
 | .node _ _ _ k r => max (deepF k + 1) (deepF r)
def Nd.deep (n : Nd) : Nat := deepF n.kids + 1
abbrev Hist := List (Int × Bool)
abbrev Dn := Bool × (Hist → Bool)
def setE (cl : List Int) : Hist → Bool
 | [] => false
 | (c, b) :: _ => b && decide (c ∈ cl)
def nextH (e : Bool) (F : Hist → Bool) : Hist → Hist
 | [] => []
 | (c, b) :: h => (c, F h || (b && e)) :: nextH e F h
def starH (F : Hist → Bool) : Hist → Hist
 | [] => []
 | (c, b) :: h => (c, b || F (starH F h)) :: starH F h
def rowE (acc : Bool) : List Dn → Hist → Bool
 | [], _ => acc
 | k :: r, h => rowE (k.2 h || (acc && k.1)) r (nextH k.1 k.2 h)
def anyE (ks : List Dn) (h : Hist) : Bool := ks.any fun k => k.2 h
def nodeE (op : Int) (cl : List Int) (ks : List Dn) (h : Hist) : Bool :=
 if op = 1 then setE cl h else if op = 2 then rowE false ks h else if op = 3 ∨ op = 5 then anyE ks h else if op = 4 then anyE ks (starH (anyE ks) h) else false
def nodeM (op : Int) (ks : List Dn) : Bool :=
 if op = 0 then true else if op = 2 then ks.all (fun k => k.1) else if op = 3 then ks.any (fun k => k.1) else if op = 4 ∨ op = 5 then decide (ks.length = 1) else false
def den : Fo → List Dn
 | .nil => []
 | .node _ _ a k r => (nodeM a.1 (den k), nodeE a.1 a.2 (den k)) :: den r
def Nd.emp (n : Nd) : Bool := nodeM n.op (den n.kids)
def Nd.end (n : Nd) (h : Hist) : Bool := nodeE n.op n.cl (den n.kids) h
def seqHs : List Dn → Hist → List Hist
 | [], _ => []
 | k :: r, h => h :: seqHs r (nextH k.1 k.2 h)
def Nd.hs (n : Nd) (h : Hist) : List Hist :=
 if n.op = 2 then seqHs (den n.kids) h else List.replicate (toL n.kids).length (if n.op = 4 then starH (anyE (den n.kids)) h else h)
def revL (t : Bool) (l : List Nd) : List Nd := if t then l.reverse else l
def cnt (op : Int) (k : Nat) : Bool := decide (op = 2 ∨ op = 3) || (decide (op = 4 ∨ op = 5) && decide (k = 1))
def nrm (t : Bool) : Fo → List Nd
 | .nil => []
 | .node _ _ a k r => ⟨a.1, a.2, ofL (if cnt a.1 (toL k).length then revL t (nrm t k) else [])⟩ :: nrm t r
def Nd.nrm (t : Bool) (n : Nd) : Nd := ⟨n.op, n.cl, ofL (if cnt n.op (toL n.kids).length then revL t (Go.Proofs.YtclogekfdmikpaaDoor.nrm t n.kids) else [])⟩
def hsr (any : Bool) : List Int → Hist
 | [] => []
 | c :: r => (c, any || r.isEmpty) :: hsr any r
def endsAt (n : Nd) (any : Bool) (rev : List Int) : Bool := if rev.isEmpty then n.emp else n.end (hsr any rev) || (any && n.emp)
structure Rl where
 left : Nd
 right : Nd
 brk : Bool
 start : Bool
def Rl.fitL (r : Rl) (text : List Int) (p : Nat) : Bool := endsAt (r.left.nrm false) (!r.start) (text.take p).reverse
def Rl.fitR (r : Rl) (text : List Int) (p : Nat) : Bool := endsAt (r.right.nrm true) true (text.drop p)
def Rl.fit (r : Rl) (text : List Int) (p : Nat) : Bool := r.fitL text p && r.fitR text p
end Go.Proofs.YtclogekfdmikpaaDoor

/- Expressions that come in, in memory and as arguments; rows of numbers that are searched and copied: what the layers from machines on take of it. -/
namespace Go.Proofs.YtclogekfdmikpaaDoor
open Go.ChangeShapes Go.WideShapes Go.RowKit
set_option linter.unusedVariables false
set_option linter.unusedSimpArgs false

def nilNd : Nd := ⟨0, [], .nil⟩
def InV (B : Nat) (w : World) : Nat → Nd → List Value → Prop
 | 0, _, _ => False
 | d + 1, n, vs => ∃ ca cc pa pc, vs = [.int .i64 n.op, .slice ca n.cl.length cc, .slice pa (toL n.kids).length pc] ∧ Rd .i64 w ca n.cl.length n.cl ∧ (0 < n.cl.length → ∀ x, ca = some x → x.block < B) ∧ (n.cl.length ≤ 140737488355328 ∧ (ca = none → cc = 0)) ∧ (toL n.kids).length ≤ 2600000000000 ∧
     (0 < (toL n.kids).length → ∃ b off, pa = some ⟨b, off, none⟩ ∧ ∀ i (hi : i < (toL n.kids).length), ∃ us, InV B w d (toL n.kids)[i] us ∧ ∀ j v, us[j]? = some v → w.cell? ⟨b, off + i * 3 + j, none⟩ = some v)
theorem InV.later {B : Nat} {w w' : World} (hb : Below w.heap.size w w') : (d : Nat) → {n : Nd} → {vs : List Value} → InV B w d n vs → InV B w' d n vs
 | 0, _, _, h => h.elim
 | d + 1, n, vs, h => by
   obtain ⟨ca, cc, pa, pc, h1, h2, h3, h4, h5, h6⟩ := h
   refine ⟨ca, cc, pa, pc, h1, h2.later hb, h3, h4, h5, fun hp => ?_⟩
   obtain ⟨b, off, e, hk⟩ := h6 hp
   refine ⟨b, off, e, fun i hi => ?_⟩
   obtain ⟨us, k1, k2⟩ := hk i hi
   exact ⟨us, k1.later hb d, fun j v hv => (hb.cell (World.block_lt_of_cell? w _ (k2 j v hv))).trans (k2 j v hv)⟩
theorem InV.base {B B' : Nat} {w : World} (hB : B ≤ B') : (d : Nat) → {n : Nd} → {vs : List Value} → InV B w d n vs → InV B' w d n vs
 | 0, _, _, h => h.elim
 | d + 1, n, vs, h => by
   obtain ⟨ca, cc, pa, pc, h1, h2, h3, h4, h5, h6⟩ := h
   refine ⟨ca, cc, pa, pc, h1, h2, fun hp x hx => Nat.lt_of_lt_of_le (h3 hp x hx) hB, h4, h5, fun hp => ?_⟩
   obtain ⟨b, off, e, hk⟩ := h6 hp
   refine ⟨b, off, e, fun i hi => ?_⟩
   obtain ⟨us, k1, k2⟩ := hk i hi
   exact ⟨us, k1.base hB d, k2⟩
theorem InV.deep {B : Nat} {w : World} : (d : Nat) → {n : Nd} → {vs : List Value} → InV B w d n vs → InV B w (d + 1) n vs
 | 0, _, _, h => h.elim
 | d + 1, n, vs, h => by
   obtain ⟨ca, cc, pa, pc, h1, h2, h3, h4, h5, h6⟩ := h
   refine ⟨ca, cc, pa, pc, h1, h2, h3, h4, h5, fun hp => ?_⟩
   obtain ⟨b, off, e, hk⟩ := h6 hp
   refine ⟨b, off, e, fun i hi => ?_⟩
   obtain ⟨us, k1, k2⟩ := hk i hi
   exact ⟨us, k1.deep d, k2⟩
theorem InV.three {B : Nat} {w : World} : {d : Nat} → {n : Nd} → {us : List Value} → InV B w d n us → ∃ ca cc pa pc, us = [.int .i64 n.op, .slice ca n.cl.length cc, .slice pa (toL n.kids).length pc]
 | 0, _, _, h => h.elim
 | d + 1, n, us, h => by
   obtain ⟨ca, cc, pa, pc, h1, _⟩ := h
   exact ⟨ca, cc, pa, pc, h1⟩
theorem Rd.lt {k : IntKind} {w : World} {a : Option Addr} {len : Nat} {xs : List Int} (h : Rd k w a len xs) : 0 < len → ∀ y, a = some y → y.block < w.heap.size := by
 intro hp y hy
 obtain ⟨b, off, e, hc⟩ := h.2 hp
 rw [e] at hy
 cases hy
 exact World.block_lt_of_cell? w _ (hc 0 hp)
theorem InV.kid {B : Nat} {w : World} {d : Nat} {n : Nd} {ca pa : Option Addr} {cn cc kn pc : Nat} {op : Int} (h : InV B w d n [.int .i64 op, .slice ca cn cc, .slice pa kn pc]) (i : Nat) (hi : i < (toL n.kids).length) : ∃ b off x c y e d', pa = some ⟨b, off, none⟩ ∧ InV B w d' (toL n.kids)[i] [.int .i64 (toL n.kids)[i].op, .slice x (toL n.kids)[i].cl.length c, .slice y (toL (toL n.kids)[i].kids).length e] ∧ d' + 1 = d ∧
 w.cell? ⟨b, off + i * 3, none⟩ = some (.int .i64 (toL n.kids)[i].op) ∧ w.cell? ⟨b, off + i * 3 + 1, none⟩ = some (.slice x (toL n.kids)[i].cl.length c) ∧ w.cell? ⟨b, off + i * 3 + 2, none⟩ = some (.slice y (toL (toL n.kids)[i].kids).length e) := by
 cases d with
 | zero => exact h.elim
 | succ d =>
   obtain ⟨ca', cc', pa', pc', hv, _, _, _, _, h6⟩ := h
   simp only [List.cons.injEq, Value.slice.injEq] at hv
   obtain ⟨b, off, e, hk⟩ := h6 (by omega)
   obtain ⟨us, k1, k2⟩ := hk i hi
   obtain ⟨x, c, y, f, rfl⟩ := k1.three
   exact ⟨b, off, x, c, y, f, d, by rw [hv.2.2.1.1]; exact e, k1, rfl, k2 0 _ rfl, k2 1 _ rfl, k2 2 _ rfl⟩
theorem InV.bounds {B : Nat} {w : World} {d : Nat} {n : Nd} {vs : List Value} (h : InV B w d n vs) : (toL n.kids).length ≤ 2600000000000 := by
 cases d with
 | zero => exact h.elim
 | succ d => obtain ⟨_, _, _, _, _, _, _, _, h5, _⟩ := h; exact h5
theorem maxR (a b : Int) (W : World) : (Builtin.max_ #[3, 3] 3 #[.int .i64 a, .int .i64 b]).run Tryd.prog W = .ok (.int .i64 (max a b)) W := by
 rw [run_max_int2]
 congr 2
 split <;> omega
theorem InV.classes {B : Nat} {w : World} {d : Nat} {n : Nd} {ca pa : Option Addr} {cn cc kn pc : Nat} {op : Int} (h : InV B w d n [.int .i64 op, .slice ca cn cc, .slice pa kn pc]) : Rd .i64 w ca n.cl.length n.cl ∧ n.cl.length ≤ 140737488355328 := by
 cases d with
 | zero => exact h.elim
 | succ d =>
   obtain ⟨ca', cc', pa', pc', hv, h2, _, h4, _, _⟩ := h
   simp only [List.cons.injEq, Value.slice.injEq] at hv
   rw [hv.2.1.1]
   exact ⟨h2, h4.1⟩
theorem InV.nilc {B : Nat} {w : World} {d : Nat} {n : Nd} {ca pa : Option Addr} {cn cc kn pc : Nat} {op : Int} (h : InV B w d n [.int .i64 op, .slice ca cn cc, .slice pa kn pc]) : ca = none → cc = 0 := by
 cases d with
 | zero => exact h.elim
 | succ d =>
   obtain ⟨ca', cc', pa', pc', hv, _, _, h4, _, _⟩ := h
   simp only [List.cons.injEq, Value.slice.injEq] at hv
   rw [hv.2.1.1, hv.2.1.2.2]
   exact h4.2
theorem upC {w w' : World} (hb : Below w.heap.size w w') {p : Addr} {v : Value} (h : w.cell? p = some v) : w'.cell? p = some v := (hb.cell (World.block_lt_of_cell? w _ h)).trans h
theorem InV.mono {B : Nat} {w : World} {d d' : Nat} (h : d ≤ d') {n : Nd} {vs : List Value} (hi : InV B w d n vs) : InV B w d' n vs := by
 induction d' with
 | zero => obtain rfl : d = 0 := by omega
           exact hi
 | succ e ih =>
   rcases Nat.lt_or_ge d (e + 1) with h1 | h1
   ·exact (ih (by omega)).deep e
   ·obtain rfl : d = e + 1 := by omega
    exact hi
theorem open_cls {H : Type} {enc : TypeId × Value → H} {W : World} {fuel : Nat} {cs : List Value} {x : DataW H × List MemPlace} (hf : DataW.trod enc Tryd.prog W 0 (fun _ => true) true fuel 26 cs = some x) (hw : (x.1.weights Tryd.prog 26).all (· ≤ reachBytes) = true) :
 ∃ a zs c, cs = [.slice a zs.length c] ∧ Rd .i64 W a zs.length zs ∧ zs.length ≤ 140737488355328 ∧ zs.length ≤ c ∧ c ≤ 9223372036854775807 ∧ (a = none → c = 0) := by
 rcases open_ints Tryd.underlying26 Tryd.underlying3 (by kernel_rfl) hf with ⟨hcs, _⟩ | ⟨x0, l, c, zs, hcs, _, hl, hm, hz, hx, hcell, hwz⟩
 ·exact ⟨none, [], 0, hcs, rd_nil _ _, by simp, by simp, by omega, fun _ => rfl⟩
 ·have hzl : zs.length = c := by simpa using hz
  have htl : (zs.take l).length = l := by simp; omega
  have hb : Tryd.prog.bytesOf 3 = 8 := by kernel_rfl
  rw [hx] at hw
  simp only [DataW.weights, Tryd.underlying26, List.all_cons, Bool.and_eq_true, decide_eq_true_eq] at hw
  have h1 := hw.1
  simp only [lits, List.length_map, List.length_take, List.length_drop, hb, reachBytes] at h1
  have hrow := rd_row (k := .i64) (w := W) (a := some x0) (len := l) (cap := c) (zs := zs) (.inr ⟨x0, rfl, hl, hm, hzl, hcell, hwz⟩)
  refine ⟨some x0, zs.take l, c, by rw [htl]; exact hcs, by rw [htl]; exact hrow.2.2.1 l (Nat.le_refl _), by rw [htl]; omega, by rw [htl]; exact hl, by simpa [maxLen] using hm, fun h => by cases h⟩
theorem w33 {H : Type} (d0 d1 d2 : DataW H) (h : ((DataW.agg [d0, d1, d2]).weights Tryd.prog 56).all (· ≤ reachBytes) = true) : (d1.weights Tryd.prog 26).all (· ≤ reachBytes) = true ∧ (d2.weights Tryd.prog 54).all (· ≤ reachBytes) = true := by
 simp only [DataW.weights, Tryd.underlying56, DataW.weightsEach, List.map_cons, List.map_nil, List.all_append, Bool.and_eq_true] at h
 exact ⟨h.2.1, h.2.2.1⟩
theorem wAll {H : Type} (t : TypeId) : (l : List (DataW H)) → (DataW.weightsAll Tryd.prog t l).all (· ≤ reachBytes) = true → ∀ d ∈ l, (d.weights Tryd.prog t).all (· ≤ reachBytes) = true
 | [], _, d, hd => by simp at hd
 | x :: r, h, d, hd => by
   simp only [DataW.weightsAll, List.all_append, Bool.and_eq_true] at h
   rcases List.mem_cons.1 hd with rfl | hd
   ·exact h.1
   ·exact wAll t r h.2 d hd
theorem open_node {H : Type} {enc : TypeId × Value → H} {W : World} (fuel : Nat) : ∀ {cs : List Value} {x : DataW H × List MemPlace}, DataW.trod enc Tryd.prog W 0 (fun _ => true) true fuel 56 cs = some x → (x.1.weights Tryd.prog 56).all (· ≤ reachBytes) = true → ∃ n, InV W.heap.size W fuel n cs := by
 induction fuel using Nat.strongRecOn with
 | _ fuel ih =>
   intro cs x hf hw
   haveI : Inhabited Nd := ⟨nilNd⟩
   obtain ⟨xs, k, rfl, hxy, hlen, hxl, hfl⟩ := DataW.trod_struct Tryd.underlying56 hf
   have ci : Tryd.prog.cellsOf 3 = 1 := by kernel_rfl
   have cl : Tryd.prog.cellsOf 26 = 1 := by kernel_rfl
   have cp : Tryd.prog.cellsOf 54 = 1 := by kernel_rfl
   have cn : Tryd.prog.cellsOf 56 = 3 := by kernel_rfl
   have bn : Tryd.prog.bytesOf 56 = 56 := by kernel_rfl
   rw [cn] at hlen
   have hx3 : xs.length = 3 := hxl
   obtain ⟨v0, v1, v2, rfl⟩ : ∃ v0 v1 v2, cs = [v0, v1, v2] := by
    rcases cs with _ | ⟨v0, _ | ⟨v1, _ | ⟨v2, _ | ⟨v3, r⟩⟩⟩⟩
    ·simp at hlen
    ·simp at hlen
    ·simp at hlen
    ·exact ⟨_, _, _, rfl⟩
    ·simp at hlen
   obtain ⟨y0, y1, y2, rfl⟩ : ∃ y0 y1 y2, xs = [y0, y1, y2] := by
    rcases xs with _ | ⟨v0, _ | ⟨v1, _ | ⟨v2, _ | ⟨v3, r⟩⟩⟩⟩
    ·simp at hx3
    ·simp at hx3
    ·simp at hx3
    ·exact ⟨_, _, _, rfl⟩
    ·simp at hx3
   have g0 := hfl 0 _ rfl
   have g1 := hfl 1 _ rfl
   have g2 := hfl 2 _ rfl
   simp [ci, cl, cp] at g0 g1 g2
   rw [hxy] at hw
   obtain ⟨hw1, hw2⟩ := w33 y0.1 y1.1 y2.1 hw
   obtain ⟨op, hop, _, _⟩ := DataW.trod_int Tryd.underlying3 g0
   obtain ⟨ca, zs, cc, hcs, hrd, hzl, _, _, hnc⟩ := open_cls g1 hw1
   simp at hop hcs
   subst hop hcs
   rcases DataW.trod_slice Tryd.underlying54 g2 with ⟨hcs, _⟩ | ⟨a, len, cap, elems, rest, n, hn, hcs, hyy, _, hl, hm, hel, hat, hsp, _⟩
   ·simp at hcs
    subst hcs
    exact ⟨⟨op, zs, .nil⟩, ca, cc, none, 0, rfl, hrd, hrd.lt, ⟨hzl, hnc⟩, by simp [toL], fun hp => by simp [toL] at hp⟩
   ·simp at hcs
    subst hcs
    rw [hyy] at hw2
    simp only [DataW.weights, Tryd.underlying54, List.all_cons, List.all_append, Bool.and_eq_true, decide_eq_true_eq, List.length_map, bn, reachBytes] at hw2
    obtain ⟨hw3, hw4, _⟩ := hw2
    have hw5 : (elems.length + rest.length) * 56 ≤ 140737488351232 := of_decide_eq_true hw3
    have each : ∀ i, i < len → ∃ m : Nd, ∃ us, InV W.heap.size W k m us ∧ us.length = 3 ∧ ∀ j, j < 3 → W.cell? (a.add (i * 3 + j)) = us[j]? := by
     intro i hi
     have h1 := hat i hi
     rw [List.getElem?_eq_getElem (by omega)] at h1
     obtain ⟨us, hus, htr⟩ := Option.bind_eq_some_iff.1 h1
     rw [cn] at hus
     obtain ⟨_, hul, hcell⟩ := World.cells?_some hus
     have hwi : ((elems[i]'(by omega)).1.weights Tryd.prog 56).all (· ≤ reachBytes) = true := wAll _ _ hw4 _ (List.mem_map.2 ⟨elems[i]'(by omega), List.getElem_mem _, rfl⟩)
     obtain ⟨m, hm2⟩ := ih n (by omega) htr hwi
     refine ⟨m, us, hm2.mono (by omega), hul, fun j hj => ?_⟩
     have := hcell j hj
     rw [Go.Deep.add_add] at this
     exact this
    obtain ⟨N, hN⟩ := Go.Deep.choose_lt each
    refine ⟨⟨op, zs, ofL ((List.range len).map N)⟩, ca, cc, some a, cap, ?_, hrd, hrd.lt, ⟨hzl, hnc⟩, ?_, fun hp => ?_⟩
    ·show [Value.int .i64 op, .slice ca zs.length cc, .slice (some a) len cap] = [Value.int .i64 op, .slice ca zs.length cc, .slice (some a) (toL (ofL ((List.range len).map N))).length cap]
     rw [toL_ofL]
     simp
    ·show (toL (ofL ((List.range len).map N))).length ≤ _
     rw [toL_ofL]
     simp
     omega
    ·have hp' : 0 < len := by
      have h2 : 0 < (toL (ofL ((List.range len).map N))).length := hp
      rw [toL_ofL] at h2
      simpa using h2
     obtain ⟨b, off, rfl⟩ : ∃ b off, a = ⟨b, off, none⟩ := by
      obtain ⟨b, off, spot⟩ := a
      obtain ⟨us, _, hul, hc⟩ := hN 0 hp'
      have h30 := hc 0 (by omega)
      rw [List.getElem?_eq_getElem (by omega)] at h30
      have hs : spot = none := by simpa [Addr.add] using World.cell?_spot h30
      exact ⟨b, off, by rw [hs]⟩
     refine ⟨b, off, rfl, fun i hi => ?_⟩
     have hi' : i < len := by
      have h2 : i < (toL (ofL ((List.range len).map N))).length := hi
      rw [toL_ofL] at h2
      simpa using h2
     obtain ⟨us, hin, hul, hc⟩ := hN i hi'
     refine ⟨us, ?_, fun j v hv => ?_⟩
     ·have e : (toL (ofL ((List.range len).map N)))[i]'hi = N i := by simp only [toL_ofL, List.getElem_map, List.getElem_range]
      show InV W.heap.size W k ((toL (ofL ((List.range len).map N)))[i]'hi) us
      rw [e]
      exact hin
     ·have hj : j < 3 := by
       rcases Nat.lt_or_ge j 3 with h | h
       ·exact h
       ·rw [List.getElem?_eq_none (by omega)] at hv; cases hv
      have := hc j hj
      rw [add_lit, hv] at this
      rw [show off + i * 3 + j = off + (i * 3 + j) by omega]
      exact this
theorem grown_cell (w : World) (g i : Nat) (v : Value) : w.grownBy (w.setCell ⟨g, i, none⟩ v) (some g) :=
 ⟨rfl, rfl, rfl, by simp [World.setCell], fun k _ hk => Below.heap_setCell _ _ _ k (fun e => hk (by rw [e]))⟩
theorem grown_all {w w1 w2 : World} {row : Option Nat} (h : w.grownBy w1 row) (h2 : w1.grownBy w2 row) : w.grownBy w2 row :=
 ⟨h2.os.trans h.os, h2.tape.trans h.tape, h2.output.trans h.output, Nat.le_trans h.size h2.size, fun k hk hne => (h2.block k (Nat.lt_of_lt_of_le hk h.size) hne).trans (h.block k hk hne)⟩
theorem own_sl1 {w : World} {B : Nat} {e : TypeId} {s n : Nat} {v : Value} {xs : List Value} (h : w.ownsRow B e s v n xs) : ∃ a c, v = .slice a n c := by
 rcases h.2 with ⟨rfl, rfl⟩ | ⟨g, cap, cur, rfl, _⟩
 ·exact ⟨none, 0, rfl⟩
 ·exact ⟨_, _, rfl⟩
theorem own_cells1 {w : World} {B : Nat} {e : TypeId} {n : Nat} {a : Option Addr} {cap : Nat} {vs : List Value} (h : w.ownsRow B e 1 (.slice a n cap) n vs) (hn : 0 < n) : ∃ g, a = some ⟨g, 0, none⟩ ∧ B ≤ g ∧ ∃ cur, w.heap[g]? = some (.cells cur e (0, 0)) ∧ ∀ i, i < n → w.cell? ⟨g, i, none⟩ = vs[i]? := by
 rcases h.2 with ⟨hv, h0⟩ | ⟨g, cap', cur, hv, hb, hg, hnc, hm, hs, ht⟩
 ·omega
 ·cases hv
  refine ⟨g, rfl, hb, cur, hg, fun i hi => ?_⟩
  rw [cell_of_row w g i _ _ _ hg, ← ht, List.getElem?_take, if_pos (by omega)]
  simp
theorem own_later5 {w w' : World} {B : Nat} {e : TypeId} {s : Nat} {v : Value} {n : Nat} {xs : List Value} (h : w.ownsRow B e s v n xs) (hb : Below w.heap.size w w') : w'.ownsRow B e s v n xs :=
 h.kept (row := none) ⟨hb.os, hb.tape, hb.output, hb.size, fun k hk _ => hb.block k hk⟩ (Classical.em _)
theorem info_i : (Tryd.prog.info? 3).map (fun i => (i.zero, i.size, i.bytes)) = some (some (.int .i64 0), 1, 8) := by kernel_rfl
theorem info_b : (Tryd.prog.info? 4).map (fun i => (i.zero, i.size, i.bytes)) = some (some (.bool false), 1, 1) := by kernel_rfl
set_option maxHeartbeats 1000000 in
theorem cloneI_any (xs : List Int) (a : Option Addr) (len cap : Nat) (w : World) (hrd : Rd .i64 w a len xs) (hnone : a = none → cap = 0) (hl : len ≤ 100000000) :
 Calls Tryd.prog 34 #[.slice a len cap] w fun e w' => ∃ v, e = .returned v ∧ w'.ownsRow w.heap.size 3 1 v len (xs.map (Value.int .i64)) ∧ Below w.heap.size w w' := by
 have hlen := hrd.1
 have q22 : ∀ (w : World) (a : Option Addr) (n c n' c' : Nat), (binOp .eql 26 (.slice a n c) (.slice none n' c')).run Tryd.prog w = .ok (.bool a.isNone) w := fun w a n c n' c' => Lib.run_eql_slice_nil w _ _ a n c n' c' Tryd.underlying26
 cases a with
 | none =>
   have h0 : len = 0 := rd_none hrd rfl
   have hr : xs = [] := List.eq_nil_of_length_eq_zero (by omega)
   have hc0 := hnone rfl
   subst h0 hr hc0
   clear hrd hnone hlen hl
   go_enter Tryd.func34, Tryd.ntmps34
   go_wp2
   go_ret
   exact ⟨_, rfl, World.ownsRow_nil _ _ _ _, Below.refl _ _⟩
 | some x =>
   obtain ⟨i0, hi, hz0, hz1, hz2⟩ := info_parts info_i
   have HI : Hid (Tryd.prog.info? 3 = some i0 ∧ i0.zero = some (.int .i64 0) ∧ i0.size = 1 ∧ i0.bytes = 8) := ⟨hi, hz0, hz1, hz2⟩
   have hown0 : (w.alloc (.cells #[] 3)).ownsRow w.heap.size 3 1 (.slice (some ⟨w.heap.size, 0, none⟩) 0 0) 0 [] := World.ownsRow_made w #[] 0 (Nat.le_refl _) (by simp [maxLen]) rfl
   have HO : Hid ((w.alloc (.cells #[] 3)).ownsRow w.heap.size 3 1 (.slice (some ⟨w.heap.size, 0, none⟩) 0 0) 0 []) := hown0
   have HR : Hid (Rd .i64 (w.alloc (.cells #[] 3)) (some x) len xs) := hrd.later ((Below.refl _ w).alloc (Nat.le_refl _) _)
   have HFIN : Hid (∀ v' w', w'.ownsRow w.heap.size 3 1 v' (0 + len) ([] ++ xs.map (Value.int .i64)) → (w.alloc (.cells #[] 3)).grownBy w' (some w.heap.size) → ∃ v, Ending.returned v' = .returned v ∧ w'.ownsRow w.heap.size 3 1 v len (xs.map (Value.int .i64)) ∧ Below w.heap.size w w') := by
    intro v' w' h1 h2
    refine ⟨v', rfl, by rw [Nat.zero_add, List.nil_append] at h1; exact h1, ?_⟩
    exact ((Below.refl _ w).alloc (Nat.le_refl _) _).grown h2 (by simp) (fun k hk => by cases hk; exact Nat.le_refl _)
   have HLL : Hid (len ≤ 100000000) := hl
   clear hi hz0 hz1 hz2 hown0 hrd hnone hlen hl
   go_enter Tryd.func34, Tryd.ntmps34
   go_wp2_with (at_builtin; refine wpList_append_rd rfl _ _ 26 rfl w.heap.size 3 i0 _ 8 Tryd.underlying26 HI.out.1 HI.out.2.1 HI.out.2.2.1 HI.out.2.2.2 rfl _ 0 [] rfl HO.out (some x) len cap .i64 xs rfl HR.out (fun h => by cases h) (by have := HLL.out; unfold maxLen; omega) (by have := HLL.out; omega) (by simp) (fun v' w' h1 h2 => ?_); have HF := HFIN.out v' w' h1 h2; have HFF : Hid _ := HF; clear HF h1 h2)
   go_ret
   exact HFF.out
theorem results_cell_one {fn : Func} {p : Tmp} {ty : TypeId} (h : fn.results = #[.cell p ty]) (tmps : Array Value) (P : Program) (w : World) :
 (results fn tmps).run P w = ((asAddr (tmps.getD p undef)).run P w).andThen fun a w₁ => (loadVar ty a).run P w₁ := by
 simp only [results, h]
 simp [Sem.run_bind, Result.andThen]
def nI (t : Nat) : Value := .int .i64 (t : Int)
end Go.Proofs.YtclogekfdmikpaaDoor

/- Plain mathematics of machines: expressions as states with ways between them, and that a machine reads just what its expression fits; nothing of the program is named here. -/
namespace Go.Proofs.YtclogekfdmikpaaDoor
set_option linter.unusedVariables false
set_option linter.unusedSimpArgs false

structure St where
 reads : Bool
 cl : List Int
 next : List Nat
def St.ad (s : St) (t : List Nat) : St := ⟨s.reads, s.cl, s.next ++ t⟩
def st0 : St := ⟨false, [], []⟩
def leadS (l : List St) (i j : Nat) : List St := l.modify i (fun s => s.ad [j])
def leads (l : List St) (es : List (Nat × Nat)) : List St := es.foldl (fun l e => leadS l e.1 e.2) l
def rowEs : Nat → List (Nat × Nat) → List (Nat × Nat)
 | _, [] => []
 | a, p :: r => (a, p.1) :: rowEs p.2 r
def rowEnd : Nat → List (Nat × Nat) → Nat
 | a, [] => a
 | _, p :: r => rowEnd p.2 r
def forkEs (f e : Nat) (ps : List (Nat × Nat)) : List (Nat × Nat) := ps.flatMap fun p => [(f, p.1), (p.2, e)]
def nodeP (op : Int) (cl : List Int) (ps : List (Nat × Nat)) (l : List St) : List St × (Nat × Nat) :=
 if op = 1 then (leads (l ++ [⟨true, cl, []⟩, st0]) [(l.length, l.length + 1)], (l.length, l.length + 1))
 else if op = 3 then (leads (l ++ [st0, st0]) (forkEs l.length (l.length + 1) ps), (l.length, l.length + 1))
 else if op = 4 then (leads (l ++ [st0]) [(l.length, (ps.headD (0, 0)).1), ((ps.headD (0, 0)).2, l.length)], (l.length, l.length))
 else if op = 5 then (leads (l ++ [st0, st0, st0]) (forkEs (l.length + 1) (l.length + 2) [ps.headD (0, 0), (l.length, l.length)]), (l.length + 1, l.length + 2))
 else (leads (l ++ [st0]) (rowEs l.length ps), (l.length, rowEnd l.length ps))
def piecesF : Fo → List St → List St × List (Nat × Nat)
 | .nil, l => (l, [])
 | .node _ _ a k r, l =>
   ((piecesF r (nodeP a.1 a.2 (piecesF k l).2 (piecesF k l).1).1).1, (nodeP a.1 a.2 (piecesF k l).2 (piecesF k l).1).2 :: (piecesF r (nodeP a.1 a.2 (piecesF k l).2 (piecesF k l).1).1).2)
def Nd.piece (n : Nd) (l : List St) : List St × (Nat × Nat) := nodeP n.op n.cl (piecesF n.kids l).2 (piecesF n.kids l).1

/-! What an expression fits. -/
def powL (k : List Int → Prop) : Nat → List Int → Prop
 | 0, w => w = []
 | n + 1, w => ∃ u v, w = u ++ v ∧ k u ∧ powL k n v
def seqL : List (List Int → Prop) → List Int → Prop
 | [], w => w = []
 | k :: r, w => ∃ u v, w = u ++ v ∧ k u ∧ seqL r v
def altL (ks : List (List Int → Prop)) (w : List Int) : Prop := ∃ k, k ∈ ks ∧ k w
def nodeL (op : Int) (cl : List Int) (ks : List (List Int → Prop)) (w : List Int) : Prop :=
 if op = 1 then ∃ c, c ∈ cl ∧ w = [c] else if op = 3 then altL ks w else if op = 4 then ∃ n, powL (ks.headD (fun _ => False)) n w else if op = 5 then w = [] ∨ ks.headD (fun _ => False) w else seqL ks w
def fitF : Fo → List (List Int → Prop)
 | .nil => []
 | .node _ _ a k r => nodeL a.1 a.2 (fitF k) :: fitF r
def Nd.fits (n : Nd) : List Int → Prop := nodeL n.op n.cl (fitF n.kids)
theorem fitF_map : (f : Fo) → fitF f = (toL f).map Nd.fits
 | .nil => rfl
 | .node _ _ a k r => by simp only [fitF, toL, List.map_cons, fitF_map r]; rfl

/-! What a machine reads. -/
def Acc (M : List St) (fin : Nat) : Nat → Nat → List Int → Prop
 | 0, _, _ => False
 | k + 1, q, w => (q = fin ∧ w = []) ∨ ∃ s, M[q]? = some s ∧ ((s.reads = false ∧ ∃ t, t ∈ s.next ∧ Acc M fin k t w) ∨ (s.reads = true ∧ ∃ c v, w = c :: v ∧ c ∈ s.cl ∧ ∃ t, t ∈ s.next ∧ Acc M fin k t v))
theorem Acc.up {M : List St} {fin : Nat} : (k : Nat) → {q : Nat} → {w : List Int} → Acc M fin k q w → Acc M fin (k + 1) q w
 | 0, _, _, h => h.elim
 | k + 1, q, w, h => by
   rcases h with h | ⟨s, hs, ⟨h1, t, h2, h3⟩ | ⟨h1, c, v, h2, h3, t, h4, h5⟩⟩
   ·exact .inl h
   ·exact .inr ⟨s, hs, .inl ⟨h1, t, h2, h3.up k⟩⟩
   ·exact .inr ⟨s, hs, .inr ⟨h1, c, v, h2, h3, t, h4, h5.up k⟩⟩
end Go.Proofs.YtclogekfdmikpaaDoor

/- Plain mathematics of machines: the machine of an expression reads just what that fits; what all machines keep to; nothing of the program is named here. -/
namespace Go.Proofs.YtclogekfdmikpaaDoor
set_option linter.unusedVariables false
set_option linter.unusedSimpArgs false

def PsIn (lo hi : Nat) (ps : List (Nat × Nat)) : Prop := (∀ p, p ∈ ps → lo ≤ p.1 ∧ p.1 < hi ∧ lo ≤ p.2 ∧ p.2 < hi) ∧ (ps.map (fun p => p.2)).Nodup
theorem PsIn.last {lo hi : Nat} {ps : List (Nat × Nat)} (h : PsIn lo hi ps) {i : Nat} (hm : i ∈ ps.map (fun p => p.2)) : lo ≤ i ∧ i < hi := by
 obtain ⟨p, hp, rfl⟩ := List.mem_map.1 hm
 exact (h.1 p hp).2.2
def RightF : Fo → Prop
 | .nil => True
 | .node _ _ a k r => ((a.1 = 4 ∨ a.1 = 5) → (toL k).length = 1) ∧ ((∀ c, c ∈ a.2 → 0 ≤ c ∧ c ≤ 23) ∧ a.2.length ≤ 1000) ∧ RightF k ∧ RightF r
def Nd.right (n : Nd) : Prop := RightF (.node 0 0 (n.op, n.cl) n.kids .nil)
end Go.Proofs.YtclogekfdmikpaaDoor

/- Plain mathematics of machines: what every machine keeps to, how large one is; what is reached without reading; sets of states that wait, read step by step; nothing of the program is named here. -/
namespace Go.Proofs.YtclogekfdmikpaaDoor
set_option linter.unusedVariables false
set_option linter.unusedSimpArgs false

def cntF : Fo → Nat
 | .nil => 0
 | .node _ _ _ k r => 1 + cntF k + cntF r
def Nd.cnt (n : Nd) : Nat := 1 + cntF n.kids
/-! What is reached without reading. -/
def ReachN (M : List St) : Nat → Nat → Nat → Prop
 | 0, a, q => a = q
 | k + 1, a, q => a = q ∨ ∃ s : St, M[a]? = some s ∧ s.reads = false ∧ ∃ t, t ∈ s.next ∧ ReachN M k t q
def Reach (M : List St) (a q : Nat) : Prop := ∃ k, ReachN M k a q
theorem Reach.refl (M : List St) (a : Nat) : Reach M a a := ⟨0, rfl⟩
theorem Reach.step {M : List St} {a t q : Nat} {s : St} (h : M[a]? = some s) (hr : s.reads = false) (ht : t ∈ s.next) (hq : Reach M t q) : Reach M a q := by
 obtain ⟨k, hk⟩ := hq
 exact ⟨k + 1, .inr ⟨s, h, hr, t, ht, hk⟩⟩
theorem reachN_trans {M : List St} : (k : Nat) → {a b q : Nat} → ReachN M k a b → Reach M b q → Reach M a q
 | 0, _, _, _, h, hq => by
   have h' : _ = _ := h
   rw [h']; exact hq
 | k + 1, _, _, _, h, hq => by
   rcases h with rfl | ⟨s, h1, h2, t, h3, h4⟩
   ·exact hq
   ·exact Reach.step h1 h2 h3 (reachN_trans k h4 hq)
theorem Reach.trans {M : List St} {a b q : Nat} (h : Reach M a b) (hq : Reach M b q) : Reach M a q := by
 obtain ⟨k, hk⟩ := h
 exact reachN_trans k hk hq
/-! Marking all that is reached, one by one. -/
def Vis (M : List St) (a : Nat) (seen seen' : List Bool) : Prop :=
 seen'.length = seen.length ∧ (∀ i, seen.getD i false = true → seen'.getD i false = true) ∧ seen'.getD a false = true ∧
  (∀ u, seen'.getD u false = true → seen.getD u false = false → Reach M a u ∧ ∀ s : St, M[u]? = some s → s.reads = false → ∀ t, t ∈ s.next → seen'.getD t false = true)
def Viss (M : List St) (as_ : List Nat) (seen seen' : List Bool) : Prop :=
 seen'.length = seen.length ∧ (∀ i, seen.getD i false = true → seen'.getD i false = true) ∧ (∀ a, a ∈ as_ → seen'.getD a false = true) ∧
  (∀ u, seen'.getD u false = true → seen.getD u false = false → (∃ a, a ∈ as_ ∧ Reach M a u) ∧ ∀ s : St, M[u]? = some s → s.reads = false → ∀ t, t ∈ s.next → seen'.getD t false = true)
theorem Viss.nil (M : List St) (seen : List Bool) : Viss M [] seen seen := ⟨rfl, fun _ h => h, fun a h => by simp at h, fun u h1 h2 => by rw [h1] at h2; cases h2⟩
theorem Viss.snoc {M : List St} {as_ : List Nat} {a : Nat} {s0 s1 s2 : List Bool} (h : Viss M as_ s0 s1) (k : Vis M a s1 s2) : Viss M (as_ ++ [a]) s0 s2 := by
 obtain ⟨h1, h2, h3, h4⟩ := h
 obtain ⟨k1, k2, k3, k4⟩ := k
 refine ⟨k1.trans h1, fun i hi => k2 i (h2 i hi), fun b hb => ?_, fun u hu hn => ?_⟩
 ·rcases List.mem_append.1 hb with hb | hb
  ·exact k2 b (h3 b hb)
  ·obtain rfl : b = a := by simpa using hb
   exact k3
 ·cases hs : s1.getD u false with
  | true =>
    obtain ⟨⟨b, hb, hr⟩, hc⟩ := h4 u hs hn
    exact ⟨⟨b, by simp [hb], hr⟩, fun s q1 q2 t ht => k2 t (hc s q1 q2 t ht)⟩
  | false =>
    obtain ⟨hr, hc⟩ := k4 u hu hs
    exact ⟨⟨a, by simp, hr⟩, hc⟩
end Go.Proofs.YtclogekfdmikpaaDoor

/- Plain mathematics of machines: pieces of a row of expressions, one by one; which expressions are right. -/
namespace Go.Proofs.YtclogekfdmikpaaDoor
set_option linter.unusedVariables false
set_option linter.unusedSimpArgs false

theorem rightF_of : (f : Fo) → (∀ x, x ∈ toL f → x.right) → RightF f
 | .nil, _ => trivial
 | .node _ _ a k r, h => by
   obtain ⟨h1, h2, h3, _⟩ := h ⟨a.1, a.2, k⟩ (by simp [toL])
   exact ⟨h1, h2, h3, rightF_of r (fun x hx => h x (by simp [toL, hx]))⟩
theorem rightF_ofL (xs : List Nd) (h : ∀ x, x ∈ xs → x.right) : RightF (ofL xs) := rightF_of _ (by rw [toL_ofL]; exact h)
def cntL (l : List Nd) : Nat := (l.map Nd.cnt).sum
theorem cntF_sum : (f : Fo) → cntF f = ((toL f).map Nd.cnt).sum
 | .nil => rfl
 | .node _ _ a k r => by
   simp only [cntF, toL, List.map_cons, List.sum_cons, cntF_sum r]
   rfl
theorem cnt_eq (n : Nd) : n.cnt = 1 + cntL (toL n.kids) := by unfold Nd.cnt cntL; rw [cntF_sum]
theorem cntL_snoc (l : List Nd) (x : Nd) : cntL (l ++ [x]) = cntL l + x.cnt := by simp [cntL]
theorem take_snoc {α : Type} (l : List α) (k : Nat) (h : k < l.length) : l.take (k + 1) = l.take k ++ [l[k]] := by
 rw [List.take_add_one, List.getElem?_eq_getElem h]; rfl
theorem cntL_take (l : List Nd) (k : Nat) (hk : k < l.length) : cntL (l.take k) + l[k].cnt ≤ cntL l := by
 have ha : ∀ a b : List Nd, cntL (a ++ b) = cntL a + cntL b := fun a b => by simp [cntL]
 have h : cntL l = cntL (l.take (k + 1)) + cntL (l.drop (k + 1)) := by rw [← ha, List.take_append_drop]
 rw [h, take_snoc l k hk, cntL_snoc]
 omega
theorem cntL_len : (l : List Nd) → l.length ≤ cntL l
 | [] => Nat.le_refl _
 | x :: r => by
   have := cntL_len r
   have h : 1 ≤ x.cnt := by rw [cnt_eq]; omega
   simp only [cntL, List.map_cons, List.sum_cons, List.length_cons] at this ⊢
   omega
def rcB (op : Int) (k : Nat) : Bool := if op = 0 ∨ op = 1 then decide (k = 0) else if op = 2 ∨ op = 3 then true else if op = 4 ∨ op = 5 then decide (k = 1) else false
def risB (last : Int) : List Int → Bool
 | [] => true
 | c :: r => decide (last < c) && decide (c < 24) && risB c r
def rclB (op : Int) (cl : List Int) : Bool := if op = 1 then risB (-1) cl else decide (cl.length = 0)
def okN : Nat → Nd → Bool
 | 0, _ => false
 | d + 1, n => rcB n.op (toL n.kids).length && rclB n.op n.cl && (toL n.kids).all (okN d)
def Nd.ok (n : Nd) : Bool := okN 32 n && decide (n.cnt ≤ 400)
theorem risB_mem : (l : List Int) → (a : Int) → risB a l = true → ∀ c, c ∈ l → a < c ∧ c ≤ 23
 | [], _, _, c, h => by simp at h
 | x :: r, a, h, c, hc => by
   simp only [risB, Bool.and_eq_true, decide_eq_true_eq] at h
   rcases List.mem_cons.1 hc with rfl | hc
   ·omega
   ·have := risB_mem r x h.2 c hc
    omega
theorem risB_len : (l : List Int) → (a : Int) → a ≤ 23 → risB a l = true → (l.length : Int) + a ≤ 23
 | [], a, h, _ => by simpa using h
 | x :: r, a, _, h => by
   simp only [risB, Bool.and_eq_true, decide_eq_true_eq] at h
   have := risB_len r x (by omega) h.2
   simp only [List.length_cons]
   omega
theorem right_of_ok : (d : Nat) → (n : Nd) → okN d n = true → n.right
 | 0, _, h => by simp [okN] at h
 | d + 1, n, h => by
   simp only [okN, Bool.and_eq_true, List.all_eq_true] at h
   obtain ⟨⟨h1, h2⟩, h3⟩ := h
   refine ⟨fun h45 => ?_, ?_, rightF_of _ (fun x hx => right_of_ok d x (h3 x hx)), trivial⟩
   ·simp only at h45
    unfold rcB at h1
    rw [if_neg (by omega), if_neg (by omega), if_pos h45] at h1
    simpa using h1
   ·show (∀ c, c ∈ n.cl → 0 ≤ c ∧ c ≤ 23) ∧ n.cl.length ≤ 1000
    unfold rclB at h2
    by_cases h1 : n.op = 1
    ·rw [if_pos h1] at h2
     refine ⟨fun c hc => ?_, ?_⟩
     ·have := risB_mem _ _ h2 c hc
      omega
     ·have := risB_len _ _ (by omega) h2
      omega
    ·rw [if_neg h1] at h2
     have h0 : n.cl = [] := by simpa using h2
     rw [h0]
     simp
theorem Nd.ok_right {n : Nd} (h : n.ok = true) : n.right ∧ n.cnt ≤ 400 := by
 unfold Nd.ok at h
 simp only [Bool.and_eq_true, decide_eq_true_eq] at h
 exact ⟨right_of_ok 32 n h.1, h.2⟩
end Go.Proofs.YtclogekfdmikpaaDoor

/- Expressions put together: in memory, whether they are right, what they fit; rows cut. -/
namespace Go.Proofs.YtclogekfdmikpaaDoor
open Go.RowKit
set_option linter.unusedVariables false
set_option linter.unusedSimpArgs false

theorem InV.node {B : Nat} {w : World} {d : Nat} (op : Int) (ns : List Nd) (b c : Nat) {cs : Array Value} {fr : Nat × Nat} {t : TypeId} (hb : w.heap[b]? = some (.cells cs t fr)) (hn : ns.length ≤ 2600000000000) (h : ∀ i (hi : i < ns.length), ∃ us, InV B w d ns[i] us ∧ ∀ j v, us[j]? = some v → cs[i * 3 + j]? = some v) :
 InV B w (d + 1) ⟨op, [], ofL ns⟩ [.int .i64 op, .slice none 0 0, .slice (some ⟨b, 0, none⟩) ns.length c] := by
 refine ⟨none, 0, some ⟨b, 0, none⟩, c, ?_, rd_nil _ _, fun h => by simp at h, ⟨by simp, fun _ => rfl⟩, ?_, fun hp => ⟨b, 0, rfl, fun i hi => ?_⟩⟩
 ·show [Value.int .i64 op, .slice none 0 0, .slice (some ⟨b, 0, none⟩) ns.length c] = [Value.int .i64 op, .slice none 0 0, .slice (some ⟨b, 0, none⟩) (toL (ofL ns)).length c]
  rw [toL_ofL]
 ·show (toL (ofL ns)).length ≤ _
  rw [toL_ofL]; exact hn
 ·have hi' : i < ns.length := by
   have h2 : i < (toL (ofL ns)).length := hi
   rwa [toL_ofL] at h2
  obtain ⟨us, h1, h2⟩ := h i hi'
  have e : (toL (ofL ns))[i]'hi = ns[i] := by simp only [toL_ofL]
  refine ⟨us, ?_, fun j v hv => ?_⟩
  ·show InV B w d ((toL (ofL ns))[i]'hi) us
   rw [e]; exact h1
  ·rw [cell_of_row w b _ _ _ _ hb, Nat.zero_add]
   exact h2 j v hv
theorem new_at2 (w : World) (o1 o2 : Obj) : ((w.alloc o1).alloc o2).heap[w.heap.size + 1]? = some o2 := by
 have := heap_alloc_new (w.alloc o1) o2
 rw [show (w.alloc o1).heap.size = w.heap.size + 1 by simp] at this
 exact this
/-! How deep. -/
/-! Which are right. -/
/-! What they fit. -/
/-! Rows cut. -/
theorem cutI (a : Option Addr) (len cap n : Nat) (h : n ≤ cap) (W : World) : (Instr.slice 26 (.slice a len cap) none (some (.int .i64 n)) none).run Tryd.prog W = .ok (.slice a n cap) W := by
 have h0 : (0 : Int) ≤ (n : Int) := by omega
 have h1 : (n : Int) ≤ (cap : Int) := by omega
 go_simp
theorem own_ne {w : World} {B : Nat} {e t : TypeId} {s n b : Nat} {v : Value} {xs : List Value} {cs : Array Value} {fr : Nat × Nat} (h : w.ownsRow B e s v n xs) (hb : w.heap[b]? = some (.cells cs t fr)) (ht : e ≠ t) : v.ownBlock ≠ some b := by
 intro hv
 rcases h.2 with ⟨rfl, _⟩ | ⟨g, cap, cur, rfl, _, hg, _⟩
 ·simp [Value.ownBlock] at hv
 ·simp [Value.ownBlock] at hv
  subst hv
  rw [hg] at hb
  simp at hb
  exact ht hb.2.1
theorem own_ne2 {w : World} {B B' : Nat} {e t : TypeId} {s s' n n' : Nat} {v v' : Value} {xs xs' : List Value} (h : w.ownsRow B e s v n xs) (h' : w.ownsRow B' t s' v' n' xs') (ht : e ≠ t) : v.ownBlock = none ∨ v.ownBlock ≠ v'.ownBlock := by
 cases hv : v.ownBlock with
 | none => exact .inl rfl
 | some b =>
   refine .inr (fun e' => ?_)
   rcases h'.2 with ⟨rfl, _⟩ | ⟨g, cap, cur, rfl, _, hg, _⟩
   ·simp [Value.ownBlock] at e'
   ·simp [Value.ownBlock] at e'
    subst e'
    exact own_ne h hg ht hv
end Go.Proofs.YtclogekfdmikpaaDoor

/- What serves rows of numbers that are cut, copied and cleared in place: cells set one behind the other in a block, copies, slices that do not overlap. -/
namespace Go.Proofs.YtclogekfdmikpaaDoor
open Go.RowKit
set_option linter.unusedVariables false

theorem run_copyI {P : Program} (w : World) (dT sT ty elem : TypeId) (b o dLen dCap : Nat) (a : Addr) (sLen sCap n : Nat) (cs : List Value)
 (hu : P.underlying dT = some (.slice elem)) (hs : (P.info? elem).map (·.size) = some 1) (hn : n = Nat.min sLen dLen) (hl : cs.length = n)
 (hsrc : ∀ j v, cs[j]? = some v → w.cell? (a.add j) = some v) (hc : ∀ j, j < cs.length → (w.cell? ⟨b, o + j, none⟩).isSome = true) (hf : ∀ j, j < cs.length → w.frozen? ⟨b, o + j, none⟩ = false) (h1 : ∀ v ∈ cs, v.oneCell' = true) :
 (Builtin.copy_ #[dT, sT] ty #[.slice (some ⟨b, o, none⟩) dLen dCap, .slice (some a) sLen sCap]).run P w = .ok (goInt n) (w.setCells b o cs) := by
 have hld := run_loadCells_list (P := P) w a cs hsrc
 have hst := run_storeCells_cells (P := P) b o cs 0 w (by simpa using hc) (by simpa using hf) h1
 rw [hl] at hld
 cases hq : P.info? elem with
 | none => simp [hq] at hs
 | some i =>
   have hi : i.size = 1 := by simpa [hq] using hs
   simp [Builtin.copy_, run_underlying hu, Builtin.lenOf, Builtin.firstCells, sizeOf, typeInfo, hq, hi, ← hn, hld, hst]
def setL (cur : Array Value) (o : Nat) : List Value → Array Value
 | [] => cur
 | v :: r => setL (cur.setIfInBounds o v) (o + 1) r
theorem setL_size : (vs : List Value) → (cur : Array Value) → (o : Nat) → (setL cur o vs).size = cur.size
 | [], _, _ => rfl
 | v :: r, cur, o => by rw [setL, setL_size r]; simp
theorem setL_list : (vs : List Value) → (cur : Array Value) → (o : Nat) → o + vs.length ≤ cur.size → (setL cur o vs).toList = cur.toList.take o ++ (vs ++ cur.toList.drop (o + vs.length))
 | [], cur, o, _ => by simp [setL]
 | v :: r, cur, o, h => by
   have hlt : o < cur.toList.length := by simp at h ⊢; omega
   rw [setL, setL_list r (cur.setIfInBounds o v) (o + 1) (by simp at h ⊢; omega)]
   have e : (cur.setIfInBounds o v).toList = cur.toList.set o v := by simp
   rw [e, List.take_set, List.drop_set_of_lt (by omega)]
   have e2 : (cur.toList.take (o + 1)).set o v = cur.toList.take o ++ [v] := by
    have hm : (cur.toList.take o).length = o := by rw [List.length_take]; omega
    rw [List.take_add_one, List.getElem?_eq_getElem hlt, List.set_append_right _ _ (by omega), hm, Nat.sub_self]
    rfl
   rw [e2, show o + 1 + r.length = o + (v :: r).length by simp; omega]
   simp
theorem heap_setCellX (w : World) (b o : Nat) (v : Value) (cur : Array Value) (t : TypeId) (fr : Nat × Nat) (h : w.heap[b]? = some (.cells cur t fr)) : (w.setCell ⟨b, o, none⟩ v).heap[b]? = some (.cells (cur.setIfInBounds o v) t fr) := by
 unfold World.setCell
 simp [Array.getElem?_modify, h]
theorem heap_setCells (b : Nat) : (vs : List Value) → (o : Nat) → (w : World) → (cur : Array Value) → (t : TypeId) → (fr : Nat × Nat) → w.heap[b]? = some (.cells cur t fr) → (w.setCells b o vs).heap[b]? = some (.cells (setL cur o vs) t fr)
 | [], _, _, _, _, _, h => h
 | v :: r, o, w, cur, t, fr, h => by
   rw [World.setCells, setL]
   exact heap_setCells b r (o + 1) _ _ t fr (heap_setCellX w b o v cur t fr h)
theorem heap_setCells_other (b k : Nat) (hk : k ≠ b) : (vs : List Value) → (o : Nat) → (w : World) → (w.setCells b o vs).heap[k]? = w.heap[k]?
 | [], _, _ => rfl
 | v :: r, o, w => by
   rw [World.setCells, heap_setCells_other b k hk r (o + 1) _]
   exact Below.heap_setCell w ⟨b, o, none⟩ v k hk
theorem size_setCells (b : Nat) : (vs : List Value) → (o : Nat) → (w : World) → (w.setCells b o vs).heap.size = w.heap.size ∧ (w.setCells b o vs).os = w.os ∧ (w.setCells b o vs).tape = w.tape ∧ (w.setCells b o vs).output = w.output
 | [], _, _ => ⟨rfl, rfl, rfl, rfl⟩
 | v :: r, o, w => by
   rw [World.setCells]
   obtain ⟨h1, h2, h3, h4⟩ := size_setCells b r (o + 1) (w.setCell ⟨b, o, none⟩ v)
   rw [h1, h2, h3, h4]
   exact ⟨by simp, rfl, rfl, rfl⟩
theorem gb_refl (w : World) (row : Option Nat) : w.grownBy w row := ⟨rfl, rfl, rfl, Nat.le_refl _, fun _ _ _ => rfl⟩
theorem gb_set {w W : World} {row : Option Nat} (h : w.grownBy W row) (b o : Nat) (vs : List Value) (hb : row = some b ∨ w.heap.size ≤ b) : w.grownBy (W.setCells b o vs) row := by
 obtain ⟨s1, s2, s3, s4⟩ := size_setCells b vs o W
 refine ⟨by rw [s2]; exact h.os, by rw [s3]; exact h.tape, by rw [s4]; exact h.output, by rw [s1]; exact h.size, fun k hk hne => ?_⟩
 rw [heap_setCells_other b k (fun e => by
  rcases hb with hb | hb
  ·exact hne (by rw [hb, e])
  ·omega)]
 exact h.block k hk hne
theorem gb_drew {w W : World} {row : Option Nat} (h : w.grownBy W row) : w.grownBy W.drew row := ⟨h.os, h.tape, h.output, h.size, h.block⟩
theorem gb_alloc {w W : World} {row : Option Nat} (h : w.grownBy W row) (o : Obj) : w.grownBy (W.alloc o) row :=
 ⟨h.os, h.tape, h.output, by have := h.size; simp; omega, fun k hk hne => by rw [Below.heap_alloc _ _ _ (by have := h.size; omega)]; exact h.block k hk hne⟩
abbrev jv (xs : List Int) : List Value := xs.map (Value.int .i64)
theorem jv_one (xs : List Int) : ∀ v ∈ jv xs, v.oneCell' = true := by
 intro v hv
 obtain ⟨x, _, rfl⟩ := List.mem_map.1 hv
 rfl
theorem own_fin {W : World} {B g cap N : Nat} {e : TypeId} {arr : Array Value} {xs : List Int} (hb : W.heap[g]? = some (.cells arr e (0, 0))) (hB : B ≤ g) (hs : arr.size = cap) (hm : cap ≤ maxLen) (hN : N ≤ cap) (hl : xs.length = N) (ht : arr.toList.take N = jv xs) : W.ownsRow B e 1 (.slice (some ⟨g, 0, none⟩) N cap) N (jv xs) :=
 ⟨by simp [hl], .inr ⟨g, cap, arr, rfl, hB, hb, hN, hm, by simpa using hs, by simpa using ht⟩⟩
theorem blk_cell {W : World} {g : Nat} {arr : Array Value} {e : TypeId} (hb : W.heap[g]? = some (.cells arr e (0, 0))) (j : Nat) (hj : j < arr.size) : (W.cell? ⟨g, j, none⟩).isSome = true ∧ W.frozen? ⟨g, j, none⟩ = false := by
 refine ⟨?_, Lib.frozen_of_heap hb j⟩
 rw [cell_of_row W g j _ _ _ hb, Array.getElem?_eq_getElem hj]
 rfl
theorem blk_at {W : World} {g : Nat} {arr : Array Value} {e : TypeId} (hb : W.heap[g]? = some (.cells arr e (0, 0))) (o : Nat) (cs : List Value) (h : ∀ j v, cs[j]? = some v → arr.toList[o + j]? = some v) : ∀ j v, cs[j]? = some v → W.cell? ((⟨g, o, none⟩ : Addr).add j) = some v := by
 intro j v hv
 rw [add_lit, cell_of_row W g (o + j) _ _ _ hb]
 simpa using h j v hv
theorem run_overlaps_apart2 {P : Program} (w : World) (tS tR e : TypeId) (ht : P.underlying tS = some (.slice e)) (size : Nat) (hz : ∀ w, (Go.sizeOf e).run P w = .ok size w)
 (a b : Addr) (la ca lb cb : Nat) (hne : a.block ≠ b.block) (tA tB : TypeId) (kA kB : Nat)
 (hsa : w.shape? a.block = some (tA, kA)) (hsb : w.shape? b.block = some (tB, kB)) (hkA : kA ≠ 0)
 (hfb : w.frozen? b = false) (hfe : w.frozen? { block := b.block, off := kB } = false) :
 (Extern.SlicesOverlaps.overlaps #[tS, tS] #[tR] #[.slice (some a) la ca, .slice (some b) lb cb]).run P w = .ok (.bool false) w := by
 have hnb : (a.block != b.block) = true := by simpa using hne
 have hnb' : (a.block == b.block) = false := by simpa using hne
 change Sem.run P (α := Value) (do
  let some t := (#[tS, tS] : Array TypeId)[0]? | stuck "slices.overlaps: no parameter types"
  let .slice elem ← underlying t | stuck "slices.overlaps: slice type expected"
  let size ← sizeOf elem
  match (some a : Option Addr), (some b : Option Addr) with
  | some a, some b =>
    if la = 0 ∨ lb = 0 ∨ size = 0 then pure (Value.bool false)
    else if a.block != b.block && (← frozen a) && (← frozen b) then unsupported .addressObserved
    else do
     if a.block != b.block then do
      noView a; noView b
      if ← mayBeOne a b then return Value.bool ((← choose (.extern "sameAddr.stringBytes" 2)) == 1)
     pure (Value.bool (a.block == b.block && a.off < b.off + lb * size && b.off < a.off + la * size))
  | _, _ => pure (Value.bool false)) w = _
 by_cases h0 : la = 0 ∨ lb = 0 ∨ size = 0
 ·simp [run_underlying ht, hz, h0]
 ·cases kA with
  | zero => exact absurd rfl hkA
  | succ kA =>
    cases hfa : w.frozen? a <;> cases hfk : w.frozen? { block := a.block, off := kA + 1 } <;>
     simp [run_underlying ht, hz, h0, hnb, hnb', frozen, noView, viewAt, mayBeOne, stringish, shape, Sem.run, hsa, hsb, hfb, hfe, hfa, hfk]
theorem ct_from (b off len cap lo : Nat) (h1 : lo ≤ len) (h2 : len ≤ cap) (h3 : ¬ cap = lo) (x : Int) (hx : x = (lo : Int)) (W : World) : (Instr.slice 26 (.slice (some ⟨b, off, none⟩) len cap) (some (.int .i64 x)) none none).run Tryd.prog W = .ok (.slice (some ⟨b, off + lo, none⟩) (len - lo) (cap - lo)) W := by
 subst hx
 have g0 : (0 : Int) ≤ (lo : Int) := by omega
 have g1 : (lo : Int) ≤ (len : Int) := by omega
 go_simp
theorem ct_to (a : Option Addr) (len cap n : Nat) (h : n ≤ cap) (x : Int) (hx : x = (n : Int)) (W : World) : (Instr.slice 26 (.slice a len cap) none (some (.int .i64 x)) none).run Tryd.prog W = .ok (.slice a n cap) W := by
 subst hx
 have h0 : (0 : Int) ≤ (n : Int) := by omega
 have h1 : (n : Int) ≤ (cap : Int) := by omega
 go_simp
theorem info_I : (Tryd.prog.info? 3).map (fun i => (i.zero, i.size, i.bytes)) = some (some (.int .i64 0), 1, 8) := by kernel_rfl
end Go.Proofs.YtclogekfdmikpaaDoor
