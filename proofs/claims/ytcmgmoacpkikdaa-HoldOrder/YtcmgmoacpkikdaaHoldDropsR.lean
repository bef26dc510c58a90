/- What HoldDrops keeps between its steps: the hold, the author's box, what was there. -/
import Derived.Test.YtcmgmoacpkikdaaHoCl
import Derived.Test.YtcmgmoacpkikdaaHoNd
namespace Go.Proofs.Ytcmgmoacpkikdaa
open Go.RowKit Go.Sort
set_option linter.unusedVariables false
set_option linter.unusedSimpArgs false

theorem own_heapK {w w' : World} {B n s : Nat} {e : TypeId} {v : Value} {xs : List Value} (h : w.ownsRow B e s v n xs) (hh : ∀ k, v.ownBlock = some k → w'.heap[k]? = w.heap[k]?) : w'.ownsRow B e s v n xs := by
  obtain ⟨hl, h1 | ⟨g, cap, cur, rfl, h1, h2, h3⟩⟩ := h
  · exact ⟨hl, .inl h1⟩
  · exact ⟨hl, .inr ⟨g, cap, cur, rfl, h1, (hh g rfl).trans h2, h3⟩⟩
theorem own_baseK {w : World} {B B' n s : Nat} {e : TypeId} {v : Value} {xs : List Value} (h : w.ownsRow B e s v n xs) (hb : B' ≤ B) : w.ownsRow B' e s v n xs := by
  obtain ⟨hl, h1 | ⟨g, cap, cur, rfl, h1, h2, h3⟩⟩ := h
  · exact ⟨hl, .inl h1⟩
  · exact ⟨hl, .inr ⟨g, cap, cur, rfl, Nat.le_trans hb h1, h2, h3⟩⟩
/-- A hold of the call's own, a number's box, a row of the call's own. -/
def DrS (w V : World) (P r N : Nat) (au : Int) (l : List Opn) (wv : Value) (n : Nat) (L : List Opn) : Prop :=
  HoO w V P r l (fun k => k = N ∨ wv.ownBlock = some k) ∧ V.heap[N]? = some (bxI au) ∧ V.ownsRow w.heap.size 31 7 wv n (flatP L)
theorem DrS.below {w V : World} {P r N : Nat} {au : Int} {l L : List Opn} {wv : Value} {n : Nat} (h : DrS w V P r N au l wv n L) : Below w.heap.size w V := h.1.below
theorem DrS.low {w V V' : World} {P r N : Nat} {au : Int} {l L : List Opn} {wv : Value} {n : Nat} (h : DrS w V P r N au l wv n L) (hb : Below V.heap.size V V') : DrS w V' P r N au l wv n L :=
  ⟨h.1.later hb, bel_heap hb h.2.1, cg_own (cg_below hb (fun _ => False)) h.2.2 (fun _ _ q => q)⟩
theorem DrS.of {w V V' : World} {P r N : Nat} {au : Int} {l l' L : List Opn} {wv : Value} {n : Nat} (h : DrS w V P r N au l wv n L) (q : HoL w V V' P r l' (fun k => k = N ∨ wv.ownBlock = some k)) : DrS w V' P r N au l' wv n L :=
  ⟨q.1, q.cell (.inl rfl) h.2.1, own_heapK h.2.2 (fun k hk => q.2.1 k (.inr hk))⟩
theorem DrS.rd {w V : World} {P r N : Nat} {au : Int} {l L : List Opn} {a : Option Addr} {c n : Nat} (h : DrS w V P r N au l (.slice a n c) n L) : RdP V a n L ∧ V.cell? ⟨N, 0, none⟩ = some (.int .i64 au) := by
  obtain ⟨a', c', hv, _, _, hr, _⟩ := rdP_own h.2.2
  cases hv
  exact ⟨hr, cell_of_row V N 0 _ _ _ h.2.1⟩
theorem d_add {w V : World} {P r N : Nat} {au : Int} {l L : List Opn} {wv : Value} {n : Nat} (h : DrS w V P r N au l wv n L) (o : Opn) (hl : l.length < 1000) :
    Calls Try.prog 20 #[.pointer (some ⟨P, 0, none⟩), o.val] V fun e w' => e = .returned (.int .i64 (addE l r o)) ∧ DrS w w' P r N au (addK l r o) wv n L := (h_add h.1 o hl).mono (by
  rintro e w' ⟨rfl, q⟩
  exact ⟨rfl, h.of q⟩)
theorem d_has {w V : World} {P r N : Nat} {au : Int} {l L : List Opn} {wv : Value} {n : Nat} (h : DrS w V P r N au l wv n L) (a s : Int) :
    Calls Try.prog 18 #[.pointer (some ⟨P, 0, none⟩), .int .i64 a, .int .i64 s] V fun e w' => e = .returned (.bool (hasK l a s)) ∧ DrS w w' P r N au l wv n L := (h_has h.1 a s).mono (by
  rintro e w' ⟨rfl, q⟩
  exact ⟨rfl, h.low q⟩)
theorem d_drop {w V : World} {P r N : Nat} {au : Int} {l L : List Opn} {wv : Value} {n : Nat} (h : DrS w V P r N au l wv n L) (F : Nat) (cs : Array Value) (Q : Opn → Bool) (hA : Ask F cs Q V) :
    Calls Try.prog 16 #[.pointer (some ⟨P, 0, none⟩), .func (.func F) #[] cs] V fun e w' => e = .returned (.int .i64 ((l.length : Int) - ((l.filter fun x => !Q x).length : Int))) ∧ DrS w w' P r N au (l.filter fun x => !Q x) wv n L := (h_drop h.1 F cs Q hA).mono (by
  rintro e w' ⟨rfl, q⟩
  exact ⟨rfl, h.of q⟩)
theorem d_all {w V : World} {P r N : Nat} {au : Int} {l L : List Opn} {wv : Value} {n : Nat} (h : DrS w V P r N au l wv n L) :
    Calls Try.prog 22 #[.pointer (some ⟨P, 0, none⟩)] V fun e w' => ∃ a c, e = .returned (.slice a l.length c) ∧ RdP w' a l.length l ∧ DrS w w' P r N au l wv n L ∧ DrS w w' P r N au l (.slice a l.length c) l.length l := (h_all h.1).mono (by
  rintro e w' ⟨a, c, rfl, q1, q2, q3⟩
  refine ⟨a, c, rfl, q2, h.low q3, h.1.more q3 (fun k hk => ?_), bel_heap q3 h.2.1, own_baseK q1 h.below.size⟩
  rcases hk with hk | hk
  · exact .inl (.inl hk)
  · exact .inr (q1.lt k hk))
theorem d_same {w V : World} {P r N : Nat} {au : Int} {l L : List Opn} {n c d : Nat} {a b : Option Addr} (h : DrS w V P r N au l (.slice a n c) n L) (M : List Opn) (m : Nat) (hr : RdP V b m M) (hm : m ≤ 100000) (z : Bool) (hz : z = true ↔ M = L) :
    Calls Try.prog 23 #[.slice b m d, .slice a n c] V fun e w' => e = .returned (.bool z) ∧ DrS w w' P r N au l (.slice a n c) n L := (sameK_any M L b a m n d c V hr h.rd.1 hm z hz).mono (by
  rintro e w' ⟨rfl, q⟩
  exact ⟨rfl, h.low q⟩)
theorem DrS.len {w V : World} {P r N : Nat} {au : Int} {l L : List Opn} {wv : Value} {n : Nat} (h : DrS w V P r N au l wv n L) : l.length ≤ r ∧ l.length ≤ 1000 ∧ AscK l := ⟨h.1.room, h.1.len, h.1.asc⟩
end Go.Proofs.Ytcmgmoacpkikdaa
