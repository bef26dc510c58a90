/- The walk of insert. -/
import Derived.Test.YtlelbepfkkaojaaDoorRgD
import Derived.Deep.RegionLaw
import Derived.Deep.RegionHeld3
namespace Go.Proofs.YtlelbepfkkaojaaDoor
open Go.RowKit Go.Shelf Go.Maps Go.Sort
set_option linter.unusedVariables false
set_option linter.unusedSimpArgs false

/-- What follows the first ones. -/
theorem follow_cut {W : World} {B : Nat} {sa : Option Addr} {cap : Nat} {rs : List El} (h : W.ownsRow B 56 4 (.slice sa rs.length cap) rs.length (flatEl rs)) (s : Nat) (hs : s ≤ rs.length) :
    ∃ sb, (∀ w : World, (Instr.slice 47 (.slice sa rs.length cap) (some (.int .i64 (s : Int))) none none).run Tryd.prog w = .ok (.slice sb (rs.length - s) (cap - s)) w) ∧ RdEl W sb (rs.length - s) (rs.drop s) := by
  rcases h.2 with ⟨h1, h0⟩ | ⟨g, cap', cur, h1, hb, hg, hn, hm, hsz, ht⟩
  · injection h1 with h1 h2 h3
    subst h1 h3
    obtain rfl : s = 0 := by omega
    refine ⟨none, fun w => ?_, by simp, fun h => by omega⟩
    rw [h0]
    go_simp
  · cases h1
    refine ⟨_, cutEl_from g 0 rs.length cap s hs hn, by simp, fun h0 => ⟨g, s * 4, ?_, fun k hk => ?_⟩⟩
    · rw [if_neg (by omega), Nat.zero_add]
    · obtain ⟨g', c', hv, _, _, c0, c1, c2, c3, _⟩ := own_el h (s + k) (by omega)
      cases hv
      have e : (rs.drop s).getD k (0, 0, 0, false) = rs.getD (s + k) (0, 0, 0, false) := by simp [List.getD_eq_getElem?_getD]
      rw [e, show s * 4 + k * 4 = (s + k) * 4 by omega]
      exact ⟨c0, c1, c2, c3⟩
/-- Behind the store of the row with one element more. -/
def InsMid (W w : World) (P B : Nat) (ve vo vi : Value) (Q M : Nat) (ve' : Value) (rs : List El) (L : List Bool) (O : List Opn) (D : DataW Value) (top : Int) : Prop :=
  TxM w P B ve' vo vi Q M rs L O D top ∧ Chg W w (OwnT P ve vo vi Q M) ∧ ∀ k, ve'.ownBlock = some k → ve.ownBlock = some k ∨ W.heap.size ≤ k
theorem ins_mid {W w1 w2 : World} {P B Q M : Nat} {ve vo vi ve' : Value} {rs rs' : List El} {L : List Bool} {O : List Opn} {D : DataW Value} {top : Int} (h : TxM W P B ve vo vi Q M rs L O D top) (hb : Below W.heap.size W w1)
    (h1 : w2.ownsRow B 56 4 ve' rs'.length (flatEl rs')) (h2 : w1.grownBy w2 ve.ownBlock) (h3 : AtX w1 ve.ownBlock ve') :
    w2.cell? ⟨P, 0, none⟩ = some ve ∧ w2.frozen? ⟨P, 0, none⟩ = false ∧ InsMid W (w2.setCell ⟨P, 0, none⟩ ve') P B ve vo vi Q M ve' rs' L O D top := by
  obtain ⟨a1, a2, a3, a4, a5, a6, a7, a8, a9⟩ := h.apart
  have hc : Chg W w2 (fun k => ve.ownBlock = some k) := cg_trans (cg_below hb _) (cg_gb h2) (fun k _ r => r)
  have hP := cg_heap hc h.blk a1
  have hPW := (Array.getElem?_eq_some_iff.1 h.blk).1
  have hs := hb.size
  have hne : ∀ k, ve'.ownBlock = some k → k ≠ P := fun k hk e => by
    rcases h3 k hk with r | r
    · exact a1 (e ▸ r)
    · omega
  have hset := cg_set w2 P 0 ve'
  have hall : Chg W (w2.setCell ⟨P, 0, none⟩ ve') (fun k => ve.ownBlock = some k ∨ k = P) := cg_trans (Q := fun k => ve.ownBlock = some k ∨ k = P) (cg_trans (cg_refl W _) hc (fun k _ r => .inl r)) hset (fun k _ r => .inr r)
  refine ⟨cell_of_row w2 P 0 _ _ _ hP, Lib.frozen_of_heap hP _, ⟨?_, cg_own hset h1 (fun k hk e => hne k hk e), cg_own hall h.ops (fun k hk r => ?_), h.idx.keep hall (fun k hk r => ?_), cg_map hall h.map (fun r => ?_), h.hP, h.hM⟩, cg_trans (cg_refl W _) hall (fun k _ r => ?_), fun k hk => ?_⟩
  · rw [heap_setX w2 P 0 _ _ _ _ hP]; rfl
  · rcases r with r | r
    · exact (a6 k r).1 hk
    · exact a2 (r ▸ hk)
  · rcases r with r | r
    · exact (a6 k r).2.1 hk
    · exact a9 (r ▸ hk)
  · rcases r with r | r
    · exact (a6 M r).2.2 rfl
    · exact a5 r
  · rcases r with r | r
    · exact .inr (.inl r)
    · exact .inl r
  · rcases h3 k hk with r | r
    · exact .inl r
    · exact .inr (by omega)
/-- What insert leaves, and remove: the elements and the index are those with one operation more. -/
def EndI (W w : World) (P B : Nat) (ve vo vi : Value) (Q M : Nat) (O : List Opn) (x : Opn) : Prop :=
  ∃ ve' vi', TxM w P B ve' vo vi' Q M (els (O ++ [x])) (marks (O ++ [x])) O (mD O) (topO O) ∧ Chg W w (OwnT P ve vo vi Q M) ∧ ∀ k, OwnT P ve' vo vi' Q M k → OwnT P ve vo vi Q M k ∨ W.heap.size ≤ k
theorem ins_end {W w w' : World} {P B Q M : Nat} {ve vo vi ve' : Value} {rs : List El} {L L' : List Bool} {O : List Opn} {D : DataW Value} {top : Int} (h : InsMid W w P B ve vo vi Q M ve' rs L O D top) (hq : PutP Q B vi L' w w') :
    ∃ vi', TxM w' P B ve' vo vi' Q M rs L' O D top ∧ Chg W w' (OwnT P ve vo vi Q M) ∧ ∀ k, OwnT P ve' vo vi' Q M k → OwnT P ve vo vi Q M k ∨ W.heap.size ≤ k := by
  obtain ⟨h1, h2, h3⟩ := h
  obtain ⟨vi', q1, q2, q3⟩ := hq
  obtain ⟨a1, a2, a3, a4, a5, a6, a7, a8, a9⟩ := h1.apart
  have hs := h2.2.2.2.1
  refine ⟨vi', ⟨cg_heap q2 h1.blk a9, cg_own q2 h1.elm (fun k hk => (a6 k hk).2.1), cg_own q2 h1.ops (fun k hk => (a7 k hk).1), q1, cg_map q2 h1.map a8, h1.hP, h1.hM⟩, cg_trans h2 q2 (fun k hk r => .inr (.inr (.inr (.inl r)))), fun k hk => ?_⟩
  rcases hk with r | r | r | r | r
  · exact .inl (.inl r)
  · rcases h3 k r with r | r
    · exact .inl (.inr (.inl r))
    · exact .inr r
  · exact .inl (.inr (.inr (.inl r)))
  · rcases r with r | r
    · exact .inl (.inr (.inr (.inr (.inl (.inl r)))))
    · rcases q3 k r with r | r
      · exact .inl (.inr (.inr (.inr (.inl (.inr r)))))
      · exact .inr (by omega)
  · exact .inl (.inr (.inr (.inr (.inr r))))
theorem gw_drewN (w : World) (q : Nat) : Gw w (w.drewN q) := ⟨q, #[], by rw [grow_empty]⟩
theorem wr_add (a b c : Nat) (h : c = a + b) (hc : c ≤ 1000000) : wrap64 ((a : Int) + (b : Int)) = (c : Int) ∧ IntKind.i64.wrap ((a : Int) + (b : Int)) = (c : Int) := by
  subst h
  rw [IntKind.wrap_i64]
  unfold wrap64
  omega
theorem wr_one (r : Int) (s : Nat) (h : r + 1 = (s : Int)) (hc : s ≤ 1000000) : wrap64 (r + 1) = (s : Int) ∧ IntKind.i64.wrap (r + 1) = (s : Int) := by
  rw [h, IntKind.wrap_i64]
  unfold wrap64
  omega
set_option maxHeartbeats 8000000 in
theorem insert_rga {P B Q M : Nat} {ve vo vi : Value} {O : List Opn} (hv : Rv O) (x : Opn) (hx : (putA O x).1 = true) (hi : x.ins = true) (hl : O.length ≤ 99000) (W : World) (h : TxAt W P B ve vo vi Q M O) (hB : B ≤ W.heap.size) :
    Calls Tryd.prog 18 #[.pointer (some ⟨P, 0, none⟩), .int .i64 (fIx O x.ref), x.val] W fun e w' => e = .returned (.tuple #[]) ∧ EndI W w' P B ve vo vi Q M O x := by
  have hN : (els O).length ≤ 99000 := by rw [els_len]; exact Nat.le_trans (seqE_len O) hl
  obtain ⟨sa, cap, rfl, hcap, hcm⟩ := own_sl h.elm
  obtain ⟨f1, f2⟩ := fIx_lt O hv x.ref
  rw [← els_len] at f2
  obtain ⟨s, hs⟩ : ∃ s : Nat, s = (fIx O x.ref + 1).toNat := ⟨_, rfl⟩
  have hr1 : fIx O x.ref + 1 = (s : Int) := by omega
  have hsN : s ≤ (els O).length := by omega
  obtain ⟨sb, hcut, hrd⟩ := follow_cut h.elm s hsN
  obtain ⟨K, hK⟩ : ∃ K, K = skI x.id (idsOf ((els O).drop s)) := ⟨_, rfl⟩
  have hp : posE O x = s + K := by
    unfold posE
    rw [hK, ← hs]
    unfold idsOf
    rw [List.map_drop, show (els O).map (fun x => (x.1, x.2.1)) = (seqE O).map Opn.id from ids_els O]
  obtain ⟨p, hpp⟩ : ∃ p, p = posE O x := ⟨_, rfl⟩
  rw [← hpp] at hp
  have hpN : p ≤ (els O).length := by rw [hpp, els_len]; exact posE_le O hv x
  obtain ⟨W1, hW1⟩ : ∃ W1, W1 = W.alloc (.cells #[.int .i64 x.c, .int .i64 x.a, .int .i64 x.s, .bool x.ins, .int .i64 x.rc, .int .i64 x.ra, .int .i32 x.ch] 32) := ⟨_, rfl⟩
  have hg1 : Gw W W1 := by rw [hW1]; exact gw_alloc W _
  have hNb : W1.heap[W.heap.size]? = some (.cells #[.int .i64 x.c, .int .i64 x.a, .int .i64 x.s, .bool x.ins, .int .i64 x.rc, .int .i64 x.ra, .int .i32 x.ch] 32) := by rw [hW1]; exact heap_alloc_new W _
  have c0 := (h.later hg1.below).cells.1
  have HIX : Hid (Calls Tryd.prog 34 #[.slice sb ((els O).length - s) (cap - s), .func (.func 35) #[] #[.pointer (some ⟨W.heap.size, 0, none⟩)]] W1 fun e w' => (∃ k : Nat, k < (els O).length - s ∧ K = k ∧ e = .returned (.int .i64 (k : Int)) ∧ Gw W1 w') ∨ (K = (els O).length - s ∧ e = .returned (.int .i64 (-1)) ∧ Gw W1 w')) := by
    rw [hK]
    exact indexEl_any x.id W.heap.size _ _ _ sb W1 (⟨cell_of_row W1 _ 0 _ _ _ hNb, cell_of_row W1 _ 1 _ _ _ hNb⟩) (hrd.later hg1.below) (by omega)
  have HCE : Hid (∀ w1, Gw W1 w1 → w1.cell? ⟨P, 0, none⟩ = some (.slice sa (els O).length cap) ∧ w1.cell? ⟨P, 1, none⟩ = some (.pointer (some ⟨Q, 0, none⟩)) ∧ w1.cell? ⟨W.heap.size, 0, none⟩ = some (.int .i64 x.c) ∧ w1.cell? ⟨W.heap.size, 1, none⟩ = some (.int .i64 x.a) ∧ w1.cell? ⟨W.heap.size, 6, none⟩ = some (.int .i32 x.ch)) := by
    intro w1 hg
    have hc := (h.later (hg1.trans hg).below).cells
    have hb := hg.below.block W.heap.size (Array.getElem?_eq_some_iff.1 hNb).1
    rw [hNb] at hb
    exact ⟨hc.1, hc.2.1, cell_of_row w1 _ 0 _ _ _ hb, cell_of_row w1 _ 1 _ _ _ hb, cell_of_row w1 _ 6 _ _ _ hb⟩
  have HIN : Hid (∀ w1, Gw W1 w1 → ∀ q, Calls Tryd.prog 37 #[.slice sa (els O).length cap, .int .i64 (p : Int), .slice (some ⟨w1.heap.size, 0, none⟩) 1 1] ((w1.drewN q).alloc (.cells #[.int .i64 x.c, .int .i64 x.a, .int .i32 x.ch, .bool true] 56)) fun e w2 => ∃ a' n' c', e = .returned (.slice a' n' c') ∧ w2.cell? ⟨P, 0, none⟩ = some (.slice sa (els O).length cap) ∧ w2.frozen? ⟨P, 0, none⟩ = false ∧ (w2.cell? ⟨W.heap.size, 0, none⟩ = some (.int .i64 x.c) ∧ w2.cell? ⟨W.heap.size, 1, none⟩ = some (.int .i64 x.a) ∧ w2.cell? ⟨W.heap.size, 6, none⟩ = some (.int .i32 x.ch)) ∧ ((w2.setCell ⟨P, 0, none⟩ (.slice a' n' c')).cell? ⟨W.heap.size, 0, none⟩ = some (.int .i64 x.c) ∧ (w2.setCell ⟨P, 0, none⟩ (.slice a' n' c')).cell? ⟨W.heap.size, 1, none⟩ = some (.int .i64 x.a) ∧ (w2.setCell ⟨P, 0, none⟩ (.slice a' n' c')).cell? ⟨W.heap.size, 6, none⟩ = some (.int .i32 x.ch)) ∧ InsMid W (w2.setCell ⟨P, 0, none⟩ (.slice a' n' c')) P B (.slice sa (els O).length cap) vo vi Q M (.slice a' n' c') (els (O ++ [x])) (marks O) O (mD O) (topO O)) := by
    intro w1 hg q
    have hbw : Below W.heap.size W ((w1.drewN q).alloc (.cells #[.int .i64 x.c, .int .i64 x.a, .int .i32 x.ch, .bool true] 56)) := (hg1.trans (hg.trans ((gw_drewN w1 q).alloc _))).below
    have hnew : ((w1.drewN q).alloc (.cells #[.int .i64 x.c, .int .i64 x.a, .int .i32 x.ch, .bool true] 56)).heap[w1.heap.size]? = some (.cells (encEl (newEl x)).toArray 56) := heap_alloc_new (w1.drewN q) _
    have hT := h.later hbw
    have hne : (Value.slice sa (els O).length cap).ownBlock ≠ some w1.heap.size := fun e => by
      have := (h.elm.lt _ e).2
      have h2 := (hg1.trans hg).below.size
      omega
    have := insEl_any (els O) (newEl x) B _ w1.heap.size p _ hT.elm (Nat.le_trans hB hbw.size) hpN hnew hne (by omega)
    refine this.mono fun e w2 hh => ?_
    obtain ⟨ve', rfl, r1, r2, r3⟩ := hh
    obtain ⟨a', c', rfl, _, _⟩ := own_sl r1
    have hr1' : w2.ownsRow B 56 4 (.slice a' ((els O).take p ++ newEl x :: (els O).drop p).length c') (els (O ++ [x])).length (flatEl (els (O ++ [x]))) := by
      rw [els_ins hv hx hi, ← hpp]
      exact r1
    obtain ⟨m1, m2, m3⟩ := ins_mid h hbw hr1' r2 r3
    have hbk : w2.heap[W.heap.size]? = some (.cells #[.int .i64 x.c, .int .i64 x.a, .int .i64 x.s, .bool x.ins, .int .i64 x.rc, .int .i64 x.ra, .int .i32 x.ch] 32) := by
      refine (r2.block W.heap.size (Array.getElem?_eq_some_iff.1 ((hg.trans ((gw_drewN w1 q).alloc _)).below.block W.heap.size (Array.getElem?_eq_some_iff.1 hNb).1 |>.trans hNb)).1 (fun e => ?_)).trans ((hg.trans ((gw_drewN w1 q).alloc _)).below.block W.heap.size (Array.getElem?_eq_some_iff.1 hNb).1 |>.trans hNb)
      have := (h.elm.lt _ e.symm).2
      omega
    have hbk2 : (w2.setCell ⟨P, 0, none⟩ (.slice a' ((els O).take p ++ newEl x :: (els O).drop p).length c')).heap[W.heap.size]? = some (.cells #[.int .i64 x.c, .int .i64 x.a, .int .i64 x.s, .bool x.ins, .int .i64 x.rc, .int .i64 x.ra, .int .i32 x.ch] 32) := by
      rw [Below.heap_setCell w2 ⟨P, 0, none⟩ _ W.heap.size (fun e => by
        have := (Array.getElem?_eq_some_iff.1 h.blk).1
        have e2 : W.heap.size = P := e
        omega)]
      exact hbk
    exact ⟨_, _, _, rfl, m1, m2, ⟨cell_of_row w2 _ 0 _ _ _ hbk, cell_of_row w2 _ 1 _ _ _ hbk, cell_of_row w2 _ 6 _ _ _ hbk⟩, ⟨cell_of_row _ _ 0 _ _ _ hbk2, cell_of_row _ _ 1 _ _ _ hbk2, cell_of_row _ _ 6 _ _ _ hbk2⟩, m3⟩
  have HSX : Hid (∀ w3 ve', InsMid W w3 P B (.slice sa (els O).length cap) vo vi Q M ve' (els (O ++ [x])) (marks O) O (mD O) (topO O) → w3.cell? ⟨P, 1, none⟩ = some (.pointer (some ⟨Q, 0, none⟩)) ∧ Calls Tryd.prog 38 #[.pointer (some ⟨Q, 0, none⟩), .int .i64 (p : Int), .bool true] w3 fun e w' => e = .returned (.bool true) ∧ EndI W w' P B (.slice sa (els O).length cap) vo vi Q M O x) := by
    intro w3 ve' hm
    refine ⟨hm.1.cells.2.1, (insX_any Q B vi (marks O) p true w3 hm.1.idx (by rw [marks_len, ← els_len]; omega) (by rw [marks_len, ← els_len]; exact hpN) (Nat.le_trans hB hm.2.1.2.2.2.1)).mono fun e w' hh => ?_⟩
    obtain ⟨q1, q2⟩ := hh
    refine ⟨q1, ?_⟩
    have q3 : PutP Q B vi (marks (O ++ [x])) w3 w' := by rw [marks_ins hv hx hi, ← hpp]; exact q2
    obtain ⟨vi', z1, z2, z3⟩ := ins_end hm q3
    exact ⟨ve', vi', z1, z2, z3⟩
  obtain ⟨ST, EN, HINs, HSXs, HEN⟩ : ∃ (ST : World → Value → Prop) (EN : World → Prop), Hid (∀ w1, Gw W1 w1 → ∀ q, Calls Tryd.prog 37 #[.slice sa (els O).length cap, .int .i64 (p : Int), .slice (some ⟨w1.heap.size, 0, none⟩) 1 1] ((w1.drewN q).alloc (.cells #[.int .i64 x.c, .int .i64 x.a, .int .i32 x.ch, .bool true] 56)) fun e w2 => ∃ a' n' c', e = .returned (.slice a' n' c') ∧ w2.cell? ⟨P, 0, none⟩ = some (.slice sa (els O).length cap) ∧ w2.frozen? ⟨P, 0, none⟩ = false ∧ (w2.cell? ⟨W.heap.size, 0, none⟩ = some (.int .i64 x.c) ∧ w2.cell? ⟨W.heap.size, 1, none⟩ = some (.int .i64 x.a) ∧ w2.cell? ⟨W.heap.size, 6, none⟩ = some (.int .i32 x.ch)) ∧ ((w2.setCell ⟨P, 0, none⟩ (.slice a' n' c')).cell? ⟨W.heap.size, 0, none⟩ = some (.int .i64 x.c) ∧ (w2.setCell ⟨P, 0, none⟩ (.slice a' n' c')).cell? ⟨W.heap.size, 1, none⟩ = some (.int .i64 x.a) ∧ (w2.setCell ⟨P, 0, none⟩ (.slice a' n' c')).cell? ⟨W.heap.size, 6, none⟩ = some (.int .i32 x.ch)) ∧ ST (w2.setCell ⟨P, 0, none⟩ (.slice a' n' c')) (.slice a' n' c')) ∧ Hid (∀ w3 ve', ST w3 ve' → w3.cell? ⟨P, 1, none⟩ = some (.pointer (some ⟨Q, 0, none⟩)) ∧ Calls Tryd.prog 38 #[.pointer (some ⟨Q, 0, none⟩), .int .i64 (p : Int), .bool true] w3 fun e w' => e = .returned (.bool true) ∧ EN w') ∧ Hid (∀ w', EN w' → EndI W w' P B (.slice sa (els O).length cap) vo vi Q M O x) := ⟨_, _, HIN, HSX, fun _ h => h⟩
  clear HIN HSX
  have hmf : ∀ (fn : Fn) (first cp : Array Value) (w : World), (Instr.makeFunc fn first cp).run Tryd.prog w = .ok (.func fn first cp) w := fun _ _ _ _ => rfl
  generalize fIx O x.ref = r at hr1 ⊢
  obtain ⟨hwr, hwr2⟩ := wr_one r s hr1 (by omega)
  obtain ⟨hwp, hwp2⟩ := wr_add s K p hp (by omega)
  have HG1 : Hid (Gw W W1) := hg1
  have HSN : Hid (s ≤ (els O).length ∧ (els O).length ≤ cap) := ⟨hsN, hcap⟩
  clear hv hx hi h hrd hg1 hNb f1 f2 hs hK hpp hpN hB hl hr1 hcm hp hsN hcap
  generalize (els O).length = N at *
  obtain ⟨H, hH⟩ : ∃ H, H = W.heap.size := ⟨_, rfl⟩
  rw [← hH] at HIX HCE HINs
  obtain ⟨xc, xa, xs, xi, xrc, xra, xch⟩ := x
  replace HINs := HINs.out
  replace HSXs := HSXs.out
  simp only [Opn.val] at hW1 HINs HSXs ⊢
  replace HINs : Hid _ := HINs
  replace HSXs : Hid _ := HSXs
  go_enter Tryd.func18, Tryd.ntmps18
  go_upto_region 1 with fail
  rw [← hH, ← hW1]
  clear hW1 hH
  go_upto_if 20 with (first | (go_at_call 34; refine HIX.out.mono ?_; intro e w1 hh; rcases hh with ⟨k, hk, hKk, rfl, hg⟩ | ⟨hKk, rfl, hg⟩; all_goals (have HG : Hid (Gw W1 w1) := hg; have HKK : Hid (K = _) := hKk; clear hg hKk)))
  all_goals
    obtain ⟨d0, d1, b0, b1, b6⟩ := HCE.out w1 HG.out
    have HWH : Hid _ := HINs.out w1 HG.out
    clear c0 HINs HIX
  · obtain rfl := HKK.out
    clear HKK hwr hcut hmf hk
    go_upto_region 6 with fail
    obtain ⟨e0, e1, f0, f1, f6⟩ := HCE.out (w1.drew.alloc (.cells #[.int .i64 xc, .int .i64 xa, .int .i32 xch, .bool true] 56)) (HG.out.trans ((show Gw w1 w1.drew from gw_drewN w1 1).alloc _))
    have HCE2 := HCE
    clear HCE
    have HA : Hid ((w1.drew.alloc (.cells #[.int .i64 xc, .int .i64 xa, .int .i32 xch, .bool true] 56)).cell? ⟨H, 0, none⟩ = some (.int .i64 xc) ∧ (w1.drew.alloc (.cells #[.int .i64 xc, .int .i64 xa, .int .i32 xch, .bool true] 56)).cell? ⟨H, 1, none⟩ = some (.int .i64 xa) ∧ (w1.drew.alloc (.cells #[.int .i64 xc, .int .i64 xa, .int .i32 xch, .bool true] 56)).cell? ⟨H, 6, none⟩ = some (.int .i32 xch)) := ⟨f0, f1, f6⟩
    have HB : Hid (w1.drew.cell? ⟨H, 0, none⟩ = some (.int .i64 xc) ∧ w1.drew.cell? ⟨H, 1, none⟩ = some (.int .i64 xa) ∧ w1.drew.cell? ⟨H, 6, none⟩ = some (.int .i32 xch)) := ⟨b0, b1, b6⟩
    have q1 := HCE2.out (w1.alloc (.cells #[.int .i64 xc, .int .i64 xa, .int .i32 xch, .bool true] 56)) (HG.out.alloc _)
    clear HCE2
    obtain ⟨e00, e10, h0, h1, h6⟩ := q1
    have HA2 : Hid ((w1.alloc (.cells #[.int .i64 xc, .int .i64 xa, .int .i32 xch, .bool true] 56)).drew.cell? ⟨H, 0, none⟩ = some (.int .i64 xc) ∧ (w1.alloc (.cells #[.int .i64 xc, .int .i64 xa, .int .i32 xch, .bool true] 56)).drew.cell? ⟨H, 1, none⟩ = some (.int .i64 xa) ∧ (w1.alloc (.cells #[.int .i64 xc, .int .i64 xa, .int .i32 xch, .bool true] 56)).drew.cell? ⟨H, 6, none⟩ = some (.int .i32 xch)) := ⟨h0, h1, h6⟩
    clear f0 f1 f6 b0 b1 b6 h0 h1 h6
    refine wp_region_noPanic ?_
    refine wp_region_held_drew (S := (fun w' => w'.cell? ⟨H, 0, none⟩ = some (.int .i64 xc) ∧ w'.cell? ⟨H, 1, none⟩ = some (.int .i64 xa) ∧ w'.cell? ⟨H, 6, none⟩ = some (.int .i32 xch))) (by kernel_rfl) (HB.out) (fun hHeld => ?_)
    refine wpAnyH_take (i := 0) (v := ?_) rfl (by kernel_rfl) (by kernel_rfl) (by kernel_rfl) (fun _ _ _ h => h) (Or.inl ⟨by rfl, ?_⟩) (by assumption) ?_
    rotate_left
    · intro W' hSw; obtain ⟨c_b0, c_b1, c_b6⟩ := hSw; go_simp; try with_reducible rfl
    try simp only [Act.put, List.getElem_toArray, List.getElem_cons_succ, List.getElem_cons_zero, List.setIfInBounds_toArray, List.set_cons_zero, List.set_cons_succ]
    refine wpAnyH_take (i := 1) (v := ?_) rfl (by kernel_rfl) (by kernel_rfl) (by kernel_rfl) (fun _ _ _ h => h) (Or.inl ⟨by rfl, ?_⟩) (by assumption) ?_
    rotate_left
    · intro W' hSw; obtain ⟨c_b0, c_b1, c_b6⟩ := hSw; go_simp; try with_reducible rfl
    try simp only [Act.put, List.getElem_toArray, List.getElem_cons_succ, List.getElem_cons_zero, List.setIfInBounds_toArray, List.set_cons_zero, List.set_cons_succ]
    refine wpAnyH_take (i := 2) (v := ?_) rfl (by kernel_rfl) (by kernel_rfl) (by kernel_rfl) (fun _ _ _ h => h) (Or.inl ⟨by rfl, ?_⟩) (by assumption) ?_
    rotate_left
    · intro W' hSw; obtain ⟨c_b0, c_b1, c_b6⟩ := hSw; go_simp; try with_reducible rfl
    try simp only [Act.put, List.getElem_toArray, List.getElem_cons_succ, List.getElem_cons_zero, List.setIfInBounds_toArray, List.set_cons_zero, List.set_cons_succ]
    refine wpAnyH_take (i := 3) (v := ?_) rfl (by kernel_rfl) (by kernel_rfl) (by kernel_rfl) (fun _ _ _ h => h) (Or.inl ⟨by rfl, ?_⟩) (by assumption) ?_
    rotate_left
    · intro W' hSw; obtain ⟨c_b0, c_b1, c_b6⟩ := hSw; go_simp; try with_reducible rfl
    try simp only [Act.put, List.getElem_toArray, List.getElem_cons_succ, List.getElem_cons_zero, List.setIfInBounds_toArray, List.set_cons_zero, List.set_cons_succ]
    refine wpAnyH_take (i := 5) (v := ?_) rfl (by kernel_rfl) (by kernel_rfl) (by kernel_rfl) (fun _ _ _ h => h) (Or.inl ⟨by rfl, ?_⟩) (by assumption) ?_
    rotate_left
    · intro W' hSw; obtain ⟨c_b0, c_b1, c_b6⟩ := hSw; go_simp; try with_reducible rfl
    try simp only [Act.put, List.getElem_toArray, List.getElem_cons_succ, List.getElem_cons_zero, List.setIfInBounds_toArray, List.set_cons_zero, List.set_cons_succ]
    refine wpAnyH_take (i := 6) (v := ?_) rfl (by kernel_rfl) (by kernel_rfl) (by kernel_rfl) (fun _ _ _ h => h) (Or.inl ⟨by rfl, ?_⟩) (by assumption) ?_
    rotate_left
    · intro W' hSw; obtain ⟨c_b0, c_b1, c_b6⟩ := hSw; go_simp; try with_reducible rfl
    try simp only [Act.put, List.getElem_toArray, List.getElem_cons_succ, List.getElem_cons_zero, List.setIfInBounds_toArray, List.set_cons_zero, List.set_cons_succ]
    refine wpAnyH_take (i := 7) (v := ?_) rfl (by kernel_rfl) (by kernel_rfl) (by kernel_rfl) (fun _ _ _ h => h) (Or.inl ⟨by rfl, ?_⟩) (by assumption) ?_
    rotate_left
    · intro W' hSw; obtain ⟨c_b0, c_b1, c_b6⟩ := hSw; go_simp; try with_reducible rfl
    try simp only [Act.put, List.getElem_toArray, List.getElem_cons_succ, List.getElem_cons_zero, List.setIfInBounds_toArray, List.set_cons_zero, List.set_cons_succ]
    refine wpAnyH_take (i := 8) (v := ?_) rfl (by kernel_rfl) (by kernel_rfl) (by kernel_rfl) (fun _ _ _ h => h) (Or.inl ⟨by rfl, ?_⟩) (by assumption) ?_
    rotate_left
    · intro W' hSw; obtain ⟨c_b0, c_b1, c_b6⟩ := hSw; go_simp; try with_reducible rfl
    try simp only [Act.put, List.getElem_toArray, List.getElem_cons_succ, List.getElem_cons_zero, List.setIfInBounds_toArray, List.set_cons_zero, List.set_cons_succ]
    refine wpAnyH_take (i := 9) (v := ?_) rfl (by kernel_rfl) (by kernel_rfl) (by kernel_rfl) (fun _ _ _ h => h) (Or.inl ⟨by rfl, ?_⟩) (by assumption) ?_
    rotate_left
    · intro W' hSw; obtain ⟨c_b0, c_b1, c_b6⟩ := hSw; go_simp; try with_reducible rfl
    try simp only [Act.put, List.getElem_toArray, List.getElem_cons_succ, List.getElem_cons_zero, List.setIfInBounds_toArray, List.set_cons_zero, List.set_cons_succ]
    refine wpAnyH_take (i := 10) (v := ?_) rfl (by kernel_rfl) (by kernel_rfl) (by kernel_rfl) (fun _ _ _ h => h) (Or.inl ⟨by rfl, ?_⟩) (by assumption) ?_
    rotate_left
    · intro W' hSw; obtain ⟨c_b0, c_b1, c_b6⟩ := hSw; go_simp; try with_reducible rfl
    try simp only [Act.put, List.getElem_toArray, List.getElem_cons_succ, List.getElem_cons_zero, List.setIfInBounds_toArray, List.set_cons_zero, List.set_cons_succ]
    refine wpAnyH_ready (rs := [4, 11]) (by kernel_rfl) (by simp) ?_
    refine AllReadyH.cons rfl (fun KK hK => ?_) (AllReadyH.cons rfl (fun KK hK => ?_) AllReadyH.nil)
    · go_simp
      refine hK.out _ _ HB.out (fun hHeld => ?_)
      clear hK KK
      try simp only [Act.put, List.getElem_toArray, List.getElem_cons_succ, List.getElem_cons_zero, List.setIfInBounds_toArray, List.set_cons_zero, List.set_cons_succ]
      refine wpAnyH_ready (rs := [11]) (by kernel_rfl) (by simp) ?_
      refine AllReadyH.cons rfl (fun KK hK => ?_) AllReadyH.nil
      go_simp
      refine hK.out _ _ HA.out (fun hHeld => ?_)
      clear hK KK
      try simp only [Act.put, List.getElem_toArray, List.getElem_cons_succ, List.getElem_cons_zero, List.setIfInBounds_toArray, List.set_cons_zero, List.set_cons_succ]
      refine wpAnyH_ready (rs := [12]) (by kernel_rfl) (by simp) ?_
      refine AllReadyH.cons rfl (fun KK hK => ?_) AllReadyH.nil
      go_simp
      go_at_call 37
      refine (HWH.out 1).mono ?_
      rintro e w2 ⟨a', n', c', rfl, z1, z2, z4, z5, z3⟩
      have HM : Hid (ST (w2.setCell ⟨P, 0, none⟩ (.slice a' n' c')) (.slice a' n' c')) := z3
      have HZ4 : Hid _ := z4
      have HZ5 : Hid _ := z5
      clear z3 z4 z5
      refine hK.out _ _ HZ4.out (fun hHeld => ?_)
      clear hK KK
      try simp only [Act.put, List.getElem_toArray, List.getElem_cons_succ, List.getElem_cons_zero, List.setIfInBounds_toArray, List.set_cons_zero, List.set_cons_succ]
      refine wpAnyH_take (i := 13) (v := ?_) rfl (by kernel_rfl) (by kernel_rfl) (by kernel_rfl) (fun _ _ _ h => h) (Or.inl ⟨by rfl, ?_⟩) (by assumption) ?_
      rotate_left
      · intro W' hSw; obtain ⟨c_b0, c_b1, c_b6⟩ := hSw; go_simp; try with_reducible rfl
      try simp only [Act.put, List.getElem_toArray, List.getElem_cons_succ, List.getElem_cons_zero, List.setIfInBounds_toArray, List.set_cons_zero, List.set_cons_succ]
      refine wpAnyH_take (i := 14) (v := ?_) rfl (by kernel_rfl) (by kernel_rfl) (by kernel_rfl) (fun _ _ _ h => h) (Or.inl ⟨by rfl, ?_⟩) (by assumption) ?_
      rotate_left
      · intro W' hSw; obtain ⟨c_b0, c_b1, c_b6⟩ := hSw; go_simp; try with_reducible rfl
      try simp only [Act.put, List.getElem_toArray, List.getElem_cons_succ, List.getElem_cons_zero, List.setIfInBounds_toArray, List.set_cons_zero, List.set_cons_succ]
      refine wpAnyH_ready (rs := [15]) (by kernel_rfl) (by simp) ?_
      refine AllReadyH.cons rfl (fun KK hK => ?_) AllReadyH.nil
      go_simp
      refine hK.out _ _ HZ5.out (fun hHeld => ?_)
      clear hK KK
      try simp only [Act.put, List.getElem_toArray, List.getElem_cons_succ, List.getElem_cons_zero, List.setIfInBounds_toArray, List.set_cons_zero, List.set_cons_succ]
      refine wpAnyH_done (by kernel_rfl) ?_ _
      refine NoPanic.normal ?_
      clear hHeld
      clear z1 z2 e0 d0 HZ4 HZ5 HA HB HWH
      obtain ⟨g1, HIX2⟩ := HSXs.out _ _ HM.out
      have HIY : Hid (Calls Tryd.prog 38 #[.pointer (some ⟨Q, 0, none⟩), .int .i64 (p : Int), .bool true] (w2.setCell ⟨P, 0, none⟩ (.slice a' n' c')) fun e w' => e = .returned (.bool true) ∧ EN w') := HIX2
      clear HIX2 HM HSXs
      go_wp2_with (first | (go_at_call 38; refine HIY.out.mono ?_; rintro e w4 ⟨rfl, z⟩; have HE : Hid (EN w4) := z; clear z))
      go_end0
      exact ⟨rfl, HEN.out _ HE.out⟩
    · go_simp
      refine hK.out _ _ HA2.out (fun hHeld => ?_)
      clear hK KK
      try simp only [Act.put, List.getElem_toArray, List.getElem_cons_succ, List.getElem_cons_zero, List.setIfInBounds_toArray, List.set_cons_zero, List.set_cons_succ]
      refine wpAnyH_ready (rs := [4]) (by kernel_rfl) (by simp) ?_
      refine AllReadyH.cons rfl (fun KK hK => ?_) AllReadyH.nil
      go_simp
      refine hK.out _ _ HA2.out (fun hHeld => ?_)
      clear hK KK
      try simp only [Act.put, List.getElem_toArray, List.getElem_cons_succ, List.getElem_cons_zero, List.setIfInBounds_toArray, List.set_cons_zero, List.set_cons_succ]
      refine wpAnyH_ready (rs := [12]) (by kernel_rfl) (by simp) ?_
      refine AllReadyH.cons rfl (fun KK hK => ?_) AllReadyH.nil
      go_simp
      go_at_call 37
      refine (HWH.out 1).mono ?_
      rintro e w2 ⟨a', n', c', rfl, z1, z2, z4, z5, z3⟩
      have HM : Hid (ST (w2.setCell ⟨P, 0, none⟩ (.slice a' n' c')) (.slice a' n' c')) := z3
      have HZ4 : Hid _ := z4
      have HZ5 : Hid _ := z5
      clear z3 z4 z5
      refine hK.out _ _ HZ4.out (fun hHeld => ?_)
      clear hK KK
      try simp only [Act.put, List.getElem_toArray, List.getElem_cons_succ, List.getElem_cons_zero, List.setIfInBounds_toArray, List.set_cons_zero, List.set_cons_succ]
      refine wpAnyH_take (i := 13) (v := ?_) rfl (by kernel_rfl) (by kernel_rfl) (by kernel_rfl) (fun _ _ _ h => h) (Or.inl ⟨by rfl, ?_⟩) (by assumption) ?_
      rotate_left
      · intro W' hSw; obtain ⟨c_b0, c_b1, c_b6⟩ := hSw; go_simp; try with_reducible rfl
      try simp only [Act.put, List.getElem_toArray, List.getElem_cons_succ, List.getElem_cons_zero, List.setIfInBounds_toArray, List.set_cons_zero, List.set_cons_succ]
      refine wpAnyH_take (i := 14) (v := ?_) rfl (by kernel_rfl) (by kernel_rfl) (by kernel_rfl) (fun _ _ _ h => h) (Or.inl ⟨by rfl, ?_⟩) (by assumption) ?_
      rotate_left
      · intro W' hSw; obtain ⟨c_b0, c_b1, c_b6⟩ := hSw; go_simp; try with_reducible rfl
      try simp only [Act.put, List.getElem_toArray, List.getElem_cons_succ, List.getElem_cons_zero, List.setIfInBounds_toArray, List.set_cons_zero, List.set_cons_succ]
      refine wpAnyH_ready (rs := [15]) (by kernel_rfl) (by simp) ?_
      refine AllReadyH.cons rfl (fun KK hK => ?_) AllReadyH.nil
      go_simp
      refine hK.out _ _ HZ5.out (fun hHeld => ?_)
      clear hK KK
      try simp only [Act.put, List.getElem_toArray, List.getElem_cons_succ, List.getElem_cons_zero, List.setIfInBounds_toArray, List.set_cons_zero, List.set_cons_succ]
      refine wpAnyH_done (by kernel_rfl) ?_ _
      refine NoPanic.normal ?_
      clear hHeld
      clear z1 z2 e0 d0 HZ4 HZ5 HA HB HWH
      obtain ⟨g1, HIX2⟩ := HSXs.out _ _ HM.out
      have HIY : Hid (Calls Tryd.prog 38 #[.pointer (some ⟨Q, 0, none⟩), .int .i64 (p : Int), .bool true] (w2.setCell ⟨P, 0, none⟩ (.slice a' n' c')) fun e w' => e = .returned (.bool true) ∧ EN w') := HIX2
      clear HIX2 HM HSXs
      go_wp2_with (first | (go_at_call 38; refine HIY.out.mono ?_; rintro e w4 ⟨rfl, z⟩; have HE : Hid (EN w4) := z; clear z))
      go_end0
      exact ⟨rfl, HEN.out _ HE.out⟩
  · obtain rfl := HKK.out
    clear HKK hwr hcut hmf
    go_upto_region 6 with fail
    obtain ⟨e0, e1, f0, f1, f6⟩ := HCE.out (w1.drew.alloc (.cells #[.int .i64 xc, .int .i64 xa, .int .i32 xch, .bool true] 56)) (HG.out.trans ((show Gw w1 w1.drew from gw_drewN w1 1).alloc _))
    have HCE2 := HCE
    clear HCE
    have HA : Hid ((w1.drew.alloc (.cells #[.int .i64 xc, .int .i64 xa, .int .i32 xch, .bool true] 56)).cell? ⟨H, 0, none⟩ = some (.int .i64 xc) ∧ (w1.drew.alloc (.cells #[.int .i64 xc, .int .i64 xa, .int .i32 xch, .bool true] 56)).cell? ⟨H, 1, none⟩ = some (.int .i64 xa) ∧ (w1.drew.alloc (.cells #[.int .i64 xc, .int .i64 xa, .int .i32 xch, .bool true] 56)).cell? ⟨H, 6, none⟩ = some (.int .i32 xch)) := ⟨f0, f1, f6⟩
    have HB : Hid (w1.drew.cell? ⟨H, 0, none⟩ = some (.int .i64 xc) ∧ w1.drew.cell? ⟨H, 1, none⟩ = some (.int .i64 xa) ∧ w1.drew.cell? ⟨H, 6, none⟩ = some (.int .i32 xch)) := ⟨b0, b1, b6⟩
    have q1 := HCE2.out (w1.alloc (.cells #[.int .i64 xc, .int .i64 xa, .int .i32 xch, .bool true] 56)) (HG.out.alloc _)
    clear HCE2
    obtain ⟨e00, e10, h0, h1, h6⟩ := q1
    have HA2 : Hid ((w1.alloc (.cells #[.int .i64 xc, .int .i64 xa, .int .i32 xch, .bool true] 56)).drew.cell? ⟨H, 0, none⟩ = some (.int .i64 xc) ∧ (w1.alloc (.cells #[.int .i64 xc, .int .i64 xa, .int .i32 xch, .bool true] 56)).drew.cell? ⟨H, 1, none⟩ = some (.int .i64 xa) ∧ (w1.alloc (.cells #[.int .i64 xc, .int .i64 xa, .int .i32 xch, .bool true] 56)).drew.cell? ⟨H, 6, none⟩ = some (.int .i32 xch)) := ⟨h0, h1, h6⟩
    clear f0 f1 f6 b0 b1 b6 h0 h1 h6
    refine wp_region_noPanic ?_
    refine wp_region_held_drew (S := (fun w' => w'.cell? ⟨H, 0, none⟩ = some (.int .i64 xc) ∧ w'.cell? ⟨H, 1, none⟩ = some (.int .i64 xa) ∧ w'.cell? ⟨H, 6, none⟩ = some (.int .i32 xch))) (by kernel_rfl) (HB.out) (fun hHeld => ?_)
    refine wpAnyH_take (i := 0) (v := ?_) rfl (by kernel_rfl) (by kernel_rfl) (by kernel_rfl) (fun _ _ _ h => h) (Or.inl ⟨by rfl, ?_⟩) (by assumption) ?_
    rotate_left
    · intro W' hSw; obtain ⟨c_b0, c_b1, c_b6⟩ := hSw; go_simp; try with_reducible rfl
    try simp only [Act.put, List.getElem_toArray, List.getElem_cons_succ, List.getElem_cons_zero, List.setIfInBounds_toArray, List.set_cons_zero, List.set_cons_succ]
    refine wpAnyH_take (i := 1) (v := ?_) rfl (by kernel_rfl) (by kernel_rfl) (by kernel_rfl) (fun _ _ _ h => h) (Or.inl ⟨by rfl, ?_⟩) (by assumption) ?_
    rotate_left
    · intro W' hSw; obtain ⟨c_b0, c_b1, c_b6⟩ := hSw; go_simp; try with_reducible rfl
    try simp only [Act.put, List.getElem_toArray, List.getElem_cons_succ, List.getElem_cons_zero, List.setIfInBounds_toArray, List.set_cons_zero, List.set_cons_succ]
    refine wpAnyH_take (i := 2) (v := ?_) rfl (by kernel_rfl) (by kernel_rfl) (by kernel_rfl) (fun _ _ _ h => h) (Or.inl ⟨by rfl, ?_⟩) (by assumption) ?_
    rotate_left
    · intro W' hSw; obtain ⟨c_b0, c_b1, c_b6⟩ := hSw; go_simp; try with_reducible rfl
    try simp only [Act.put, List.getElem_toArray, List.getElem_cons_succ, List.getElem_cons_zero, List.setIfInBounds_toArray, List.set_cons_zero, List.set_cons_succ]
    refine wpAnyH_take (i := 3) (v := ?_) rfl (by kernel_rfl) (by kernel_rfl) (by kernel_rfl) (fun _ _ _ h => h) (Or.inl ⟨by rfl, ?_⟩) (by assumption) ?_
    rotate_left
    · intro W' hSw; obtain ⟨c_b0, c_b1, c_b6⟩ := hSw; go_simp; try with_reducible rfl
    try simp only [Act.put, List.getElem_toArray, List.getElem_cons_succ, List.getElem_cons_zero, List.setIfInBounds_toArray, List.set_cons_zero, List.set_cons_succ]
    refine wpAnyH_take (i := 5) (v := ?_) rfl (by kernel_rfl) (by kernel_rfl) (by kernel_rfl) (fun _ _ _ h => h) (Or.inl ⟨by rfl, ?_⟩) (by assumption) ?_
    rotate_left
    · intro W' hSw; obtain ⟨c_b0, c_b1, c_b6⟩ := hSw; go_simp; try with_reducible rfl
    try simp only [Act.put, List.getElem_toArray, List.getElem_cons_succ, List.getElem_cons_zero, List.setIfInBounds_toArray, List.set_cons_zero, List.set_cons_succ]
    refine wpAnyH_take (i := 6) (v := ?_) rfl (by kernel_rfl) (by kernel_rfl) (by kernel_rfl) (fun _ _ _ h => h) (Or.inl ⟨by rfl, ?_⟩) (by assumption) ?_
    rotate_left
    · intro W' hSw; obtain ⟨c_b0, c_b1, c_b6⟩ := hSw; go_simp; try with_reducible rfl
    try simp only [Act.put, List.getElem_toArray, List.getElem_cons_succ, List.getElem_cons_zero, List.setIfInBounds_toArray, List.set_cons_zero, List.set_cons_succ]
    refine wpAnyH_take (i := 7) (v := ?_) rfl (by kernel_rfl) (by kernel_rfl) (by kernel_rfl) (fun _ _ _ h => h) (Or.inl ⟨by rfl, ?_⟩) (by assumption) ?_
    rotate_left
    · intro W' hSw; obtain ⟨c_b0, c_b1, c_b6⟩ := hSw; go_simp; try with_reducible rfl
    try simp only [Act.put, List.getElem_toArray, List.getElem_cons_succ, List.getElem_cons_zero, List.setIfInBounds_toArray, List.set_cons_zero, List.set_cons_succ]
    refine wpAnyH_take (i := 8) (v := ?_) rfl (by kernel_rfl) (by kernel_rfl) (by kernel_rfl) (fun _ _ _ h => h) (Or.inl ⟨by rfl, ?_⟩) (by assumption) ?_
    rotate_left
    · intro W' hSw; obtain ⟨c_b0, c_b1, c_b6⟩ := hSw; go_simp; try with_reducible rfl
    try simp only [Act.put, List.getElem_toArray, List.getElem_cons_succ, List.getElem_cons_zero, List.setIfInBounds_toArray, List.set_cons_zero, List.set_cons_succ]
    refine wpAnyH_take (i := 9) (v := ?_) rfl (by kernel_rfl) (by kernel_rfl) (by kernel_rfl) (fun _ _ _ h => h) (Or.inl ⟨by rfl, ?_⟩) (by assumption) ?_
    rotate_left
    · intro W' hSw; obtain ⟨c_b0, c_b1, c_b6⟩ := hSw; go_simp; try with_reducible rfl
    try simp only [Act.put, List.getElem_toArray, List.getElem_cons_succ, List.getElem_cons_zero, List.setIfInBounds_toArray, List.set_cons_zero, List.set_cons_succ]
    refine wpAnyH_take (i := 10) (v := ?_) rfl (by kernel_rfl) (by kernel_rfl) (by kernel_rfl) (fun _ _ _ h => h) (Or.inl ⟨by rfl, ?_⟩) (by assumption) ?_
    rotate_left
    · intro W' hSw; obtain ⟨c_b0, c_b1, c_b6⟩ := hSw; go_simp; try with_reducible rfl
    try simp only [Act.put, List.getElem_toArray, List.getElem_cons_succ, List.getElem_cons_zero, List.setIfInBounds_toArray, List.set_cons_zero, List.set_cons_succ]
    refine wpAnyH_ready (rs := [4, 11]) (by kernel_rfl) (by simp) ?_
    refine AllReadyH.cons rfl (fun KK hK => ?_) (AllReadyH.cons rfl (fun KK hK => ?_) AllReadyH.nil)
    · go_simp
      refine hK.out _ _ HB.out (fun hHeld => ?_)
      clear hK KK
      try simp only [Act.put, List.getElem_toArray, List.getElem_cons_succ, List.getElem_cons_zero, List.setIfInBounds_toArray, List.set_cons_zero, List.set_cons_succ]
      refine wpAnyH_ready (rs := [11]) (by kernel_rfl) (by simp) ?_
      refine AllReadyH.cons rfl (fun KK hK => ?_) AllReadyH.nil
      go_simp
      refine hK.out _ _ HA.out (fun hHeld => ?_)
      clear hK KK
      try simp only [Act.put, List.getElem_toArray, List.getElem_cons_succ, List.getElem_cons_zero, List.setIfInBounds_toArray, List.set_cons_zero, List.set_cons_succ]
      refine wpAnyH_ready (rs := [12]) (by kernel_rfl) (by simp) ?_
      refine AllReadyH.cons rfl (fun KK hK => ?_) AllReadyH.nil
      go_simp
      go_at_call 37
      refine (HWH.out 1).mono ?_
      rintro e w2 ⟨a', n', c', rfl, z1, z2, z4, z5, z3⟩
      have HM : Hid (ST (w2.setCell ⟨P, 0, none⟩ (.slice a' n' c')) (.slice a' n' c')) := z3
      have HZ4 : Hid _ := z4
      have HZ5 : Hid _ := z5
      clear z3 z4 z5
      refine hK.out _ _ HZ4.out (fun hHeld => ?_)
      clear hK KK
      try simp only [Act.put, List.getElem_toArray, List.getElem_cons_succ, List.getElem_cons_zero, List.setIfInBounds_toArray, List.set_cons_zero, List.set_cons_succ]
      refine wpAnyH_take (i := 13) (v := ?_) rfl (by kernel_rfl) (by kernel_rfl) (by kernel_rfl) (fun _ _ _ h => h) (Or.inl ⟨by rfl, ?_⟩) (by assumption) ?_
      rotate_left
      · intro W' hSw; obtain ⟨c_b0, c_b1, c_b6⟩ := hSw; go_simp; try with_reducible rfl
      try simp only [Act.put, List.getElem_toArray, List.getElem_cons_succ, List.getElem_cons_zero, List.setIfInBounds_toArray, List.set_cons_zero, List.set_cons_succ]
      refine wpAnyH_take (i := 14) (v := ?_) rfl (by kernel_rfl) (by kernel_rfl) (by kernel_rfl) (fun _ _ _ h => h) (Or.inl ⟨by rfl, ?_⟩) (by assumption) ?_
      rotate_left
      · intro W' hSw; obtain ⟨c_b0, c_b1, c_b6⟩ := hSw; go_simp; try with_reducible rfl
      try simp only [Act.put, List.getElem_toArray, List.getElem_cons_succ, List.getElem_cons_zero, List.setIfInBounds_toArray, List.set_cons_zero, List.set_cons_succ]
      refine wpAnyH_ready (rs := [15]) (by kernel_rfl) (by simp) ?_
      refine AllReadyH.cons rfl (fun KK hK => ?_) AllReadyH.nil
      go_simp
      refine hK.out _ _ HZ5.out (fun hHeld => ?_)
      clear hK KK
      try simp only [Act.put, List.getElem_toArray, List.getElem_cons_succ, List.getElem_cons_zero, List.setIfInBounds_toArray, List.set_cons_zero, List.set_cons_succ]
      refine wpAnyH_done (by kernel_rfl) ?_ _
      refine NoPanic.normal ?_
      clear hHeld
      clear z1 z2 e0 d0 HZ4 HZ5 HA HB HWH
      obtain ⟨g1, HIX2⟩ := HSXs.out _ _ HM.out
      have HIY : Hid (Calls Tryd.prog 38 #[.pointer (some ⟨Q, 0, none⟩), .int .i64 (p : Int), .bool true] (w2.setCell ⟨P, 0, none⟩ (.slice a' n' c')) fun e w' => e = .returned (.bool true) ∧ EN w') := HIX2
      clear HIX2 HM HSXs
      go_wp2_with (first | (go_at_call 38; refine HIY.out.mono ?_; rintro e w4 ⟨rfl, z⟩; have HE : Hid (EN w4) := z; clear z))
      go_end0
      exact ⟨rfl, HEN.out _ HE.out⟩
    · go_simp
      refine hK.out _ _ HA2.out (fun hHeld => ?_)
      clear hK KK
      try simp only [Act.put, List.getElem_toArray, List.getElem_cons_succ, List.getElem_cons_zero, List.setIfInBounds_toArray, List.set_cons_zero, List.set_cons_succ]
      refine wpAnyH_ready (rs := [4]) (by kernel_rfl) (by simp) ?_
      refine AllReadyH.cons rfl (fun KK hK => ?_) AllReadyH.nil
      go_simp
      refine hK.out _ _ HA2.out (fun hHeld => ?_)
      clear hK KK
      try simp only [Act.put, List.getElem_toArray, List.getElem_cons_succ, List.getElem_cons_zero, List.setIfInBounds_toArray, List.set_cons_zero, List.set_cons_succ]
      refine wpAnyH_ready (rs := [12]) (by kernel_rfl) (by simp) ?_
      refine AllReadyH.cons rfl (fun KK hK => ?_) AllReadyH.nil
      go_simp
      go_at_call 37
      refine (HWH.out 1).mono ?_
      rintro e w2 ⟨a', n', c', rfl, z1, z2, z4, z5, z3⟩
      have HM : Hid (ST (w2.setCell ⟨P, 0, none⟩ (.slice a' n' c')) (.slice a' n' c')) := z3
      have HZ4 : Hid _ := z4
      have HZ5 : Hid _ := z5
      clear z3 z4 z5
      refine hK.out _ _ HZ4.out (fun hHeld => ?_)
      clear hK KK
      try simp only [Act.put, List.getElem_toArray, List.getElem_cons_succ, List.getElem_cons_zero, List.setIfInBounds_toArray, List.set_cons_zero, List.set_cons_succ]
      refine wpAnyH_take (i := 13) (v := ?_) rfl (by kernel_rfl) (by kernel_rfl) (by kernel_rfl) (fun _ _ _ h => h) (Or.inl ⟨by rfl, ?_⟩) (by assumption) ?_
      rotate_left
      · intro W' hSw; obtain ⟨c_b0, c_b1, c_b6⟩ := hSw; go_simp; try with_reducible rfl
      try simp only [Act.put, List.getElem_toArray, List.getElem_cons_succ, List.getElem_cons_zero, List.setIfInBounds_toArray, List.set_cons_zero, List.set_cons_succ]
      refine wpAnyH_take (i := 14) (v := ?_) rfl (by kernel_rfl) (by kernel_rfl) (by kernel_rfl) (fun _ _ _ h => h) (Or.inl ⟨by rfl, ?_⟩) (by assumption) ?_
      rotate_left
      · intro W' hSw; obtain ⟨c_b0, c_b1, c_b6⟩ := hSw; go_simp; try with_reducible rfl
      try simp only [Act.put, List.getElem_toArray, List.getElem_cons_succ, List.getElem_cons_zero, List.setIfInBounds_toArray, List.set_cons_zero, List.set_cons_succ]
      refine wpAnyH_ready (rs := [15]) (by kernel_rfl) (by simp) ?_
      refine AllReadyH.cons rfl (fun KK hK => ?_) AllReadyH.nil
      go_simp
      refine hK.out _ _ HZ5.out (fun hHeld => ?_)
      clear hK KK
      try simp only [Act.put, List.getElem_toArray, List.getElem_cons_succ, List.getElem_cons_zero, List.setIfInBounds_toArray, List.set_cons_zero, List.set_cons_succ]
      refine wpAnyH_done (by kernel_rfl) ?_ _
      refine NoPanic.normal ?_
      clear hHeld
      clear z1 z2 e0 d0 HZ4 HZ5 HA HB HWH
      obtain ⟨g1, HIX2⟩ := HSXs.out _ _ HM.out
      have HIY : Hid (Calls Tryd.prog 38 #[.pointer (some ⟨Q, 0, none⟩), .int .i64 (p : Int), .bool true] (w2.setCell ⟨P, 0, none⟩ (.slice a' n' c')) fun e w' => e = .returned (.bool true) ∧ EN w') := HIX2
      clear HIX2 HM HSXs
      go_wp2_with (first | (go_at_call 38; refine HIY.out.mono ?_; rintro e w4 ⟨rfl, z⟩; have HE : Hid (EN w4) := z; clear z))
      go_end0
      exact ⟨rfl, HEN.out _ HE.out⟩
end Go.Proofs.YtlelbepfkkaojaaDoor
