/- The walks of frame's lay, sum and layOp: numbers put behind a row of the call's own. -/
import Derived.Test.YtcbnmahbdcjamaaFrM
import Derived.Test.YtcbnmahbdcjamaaPackE
import Derived.Test.YtcbnmahbdcjamaaBasW
import Derived.Test.YtcbnmahbdcjamaaBasX
import Derived.Test.YtcbnmahbdcjamaaBasR
namespace Go.Proofs.Ytcbnmahbdcjamaa
open Go.RowKit
set_option linter.unusedVariables false
set_option linter.unusedSimpArgs false

theorem pks_next (ns : List Int) (k : Nat) (h : k < ns.length) : pks (ns.take (k + 1)) = pks (ns.take k) ++ pk (ns.getD k 0) := by
  rw [List.take_add_one, pks_app, List.getElem?_eq_getElem h]
  simp [h, pks]
/-- What lay leaves: the row, longer. -/
def LayQ (B : Nat) (v : Value) (len : Nat) (xs ns : List Int) (w : World) (e : Ending) (w' : World) : Prop :=
  ∃ v', e = .returned v' ∧ w'.ownsRow B 5 1 v' (len + (pks ns).length) ((xs ++ pks ns).map (Value.int .u8)) ∧ Chg w w' (fun k => v.ownBlock = some k) ∧ LiesB w v v'
set_option maxRecDepth 100000 in
set_option maxHeartbeats 1000000 in
theorem flay_any (B : Nat) (v : Value) (len : Nat) (xs ns : List Int) (na : Option Addr) (nn nc : Nat) (w : World) (hown : w.ownsRow B 5 1 v len (xs.map (Value.int .u8))) (hrd : Rd .i64 w na nn ns) (hap : ∀ b off, na = some ⟨b, off, none⟩ → v.ownBlock ≠ some b)
    (hr : ∀ y ∈ ns, 0 ≤ y ∧ y ≤ 9223372036854775807) (hlen : len ≤ 1000000000) (hnn : nn ≤ 1000) (hB : B ≤ w.heap.size) :
    Calls Try.prog 119 #[v, .slice na nn nc] w fun e w' => LayQ B v len xs ns w e w' := by
  obtain ⟨i0, hi, hz0, hz1, hz2⟩ := info_parts info_u8
  have HL : Hid (ns.length = nn) := hrd.1
  have HC : Hid (∀ W, Chg w W (fun k => v.ownBlock = some k) → ∀ k, k < nn → ∃ b off, na = some ⟨b, off, none⟩ ∧ W.cell? ⟨b, off + k, none⟩ = some (.int .i64 (ns.getD k 0))) := by
    intro W hW k hk
    obtain ⟨b, off, rfl, hc⟩ := hrd.2 (by omega)
    exact ⟨b, off, rfl, cg_cell hW (hc k hk) (hap b off rfl)⟩
  have HR : Hid (∀ k, k < nn → 0 ≤ ns.getD k 0 ∧ ns.getD k 0 ≤ 9223372036854775807) := fun k hk => hr _ (by have := hrd.1; simp [show k < ns.length by omega])
  have HS : Hid (w.ownsRow B 5 1 v (len + (pks (ns.take 0)).length) ((xs ++ pks (ns.take 0)).map (Value.int .u8))) := by
    show w.ownsRow B 5 1 v (len + (pks (ns.take 0)).length) ((xs ++ pks (ns.take 0)).map (Value.int .u8))
    simpa [pks] using hown
  have HM : Hid (∀ k, k ≤ nn → (pks (ns.take k)).length ≤ 10000) := fun k hk => by
    have h2 := hrd.1
    have h3 := pks_most (ns.take k)
    rw [List.length_take] at h3
    omega
  have HN : Hid (∀ k, k < nn → pks (ns.take (k + 1)) = pks (ns.take k) ++ pk (ns.getD k 0)) := fun k hk => pks_next ns k (by have := hrd.1; omega)
  have HE : Hid (ns.take nn = ns) := List.take_of_length_le (by have := hrd.1; omega)
  clear hown hrd hap hr
  go_enter Try.func119, Try.ntmps119
  go_wp2
  go_loopw [0, 9] (fun x0 x9 wr => ∃ (k : Nat) (u : Value), x9 = .int .i64 (k : Int) ∧ x0 = u ∧ k ≤ nn ∧ wr.ownsRow B 5 1 u (len + (pks (ns.take k)).length) ((xs ++ pks (ns.take k)).map (Value.int .u8)) ∧ Chg w wr (fun k => v.ownBlock = some k) ∧ LiesB w v u) (fun _ x9 _ => nn - (RowKit.intOf x9).toNat)
  case atStart => exact ⟨0, _, rfl, rfl, by omega, HS.out, cg_refl _ _, lies_refl _ _⟩
  case round =>
    obtain ⟨k, x0, hx, hx0, hk, ho, hc, hl⟩ := hrel
    subst hx hx0
    have HO : Hid (wr.ownsRow B 5 1 u0 (len + (pks (ns.take k)).length) ((xs ++ pks (ns.take k)).map (Value.int .u8))) := ho
    have HG : Hid (Chg w wr (fun k => v.ownBlock = some k)) := hc
    have HLI : Hid (LiesB w v u0) := hl
    clear ho hc hl HS
    by_cases hlt : k < nn
    · obtain ⟨b, off, hsa, hcell⟩ := HC.out wr HG.out k hlt
      subst hsa
      obtain ⟨y0, y1⟩ := HR.out k hlt
      have hn := HN.out k hlt
      have hm := HM.out k hk
      generalize ns.getD k 0 = y at hcell y0 y1 hn
      have hcv : IntKind.u64.wrap y = y := by rw [IntKind.wrap_u64]; omega
      have hpl := pk_len y
      have HPN : Hid (pks (ns.take (k + 1)) = pks (ns.take k) ++ pk y) := hn
      clear hn
      generalize hP : pks (ns.take k) = P at *
      have hPl : P.length ≤ 10000 := hm
      clear hP hm
      go_wp2_with (first
        | (go_at_call 150
           refine (put_any none 0 0 [] y _ y0 (by omega) (rd_nil _ _) (fun _ => rfl) (by omega)).mono ?_
           rintro e w1 ⟨hb, a1, c1, rfl, q1, q2, q3, q4⟩
           have HB1 : Hid (Below wr.heap.size wr w1) := hb
           obtain ⟨b1, o1, ha1, _⟩ := q3.2 (by omega)
           subst ha1
           rw [Nat.zero_add] at q1 q3
           rw [Nat.zero_add]
           have HRD : Hid (Rd .u8 w1 (some ⟨b1, o1, none⟩) (pk y).length (pk y)) := q3
           have HSZ : Hid (B ≤ w1.heap.size) := Nat.le_trans (Nat.le_trans hB HG.out.2.2.2.1) hb.size
           have HOW : Hid (w1.ownsRow B 5 1 u0 (len + P.length) ((xs ++ P).map (Value.int .u8))) := own_later HO.out hb
           clear hb q1 q2 q3 q4)
        | (at_builtin; refine wpList_append_lies _ rfl (.tmp 13) (.tmp 16) 53 rfl B 5 i0 (.int .u8 0) 1 1 Try.underlying53 hi hz0 hz1 hz2 rfl (by decide) _ _ _ rfl HOW.out ⟨b1, o1, none⟩ (pk y).length c1 ((pk y).map (Value.int .u8)) rfl (by simp) (rd_news HRD.out) (by simp [Value.oneCell']) (by omega) (by unfold maxLen; omega) (by omega) HSZ.out w1.heap.size rfl ?_))
      intro g cap w2 r1 r2 r3 _
      have HF : Hid (w2.ownsRow B 5 1 (.slice (some ⟨g, 0, none⟩) (len + P.length + (pk y).length) cap) (len + (pks (ns.take (k + 1))).length) ((xs ++ pks (ns.take (k + 1))).map (Value.int .u8)) ∧ Chg w w2 (fun k => v.ownBlock = some k) ∧ LiesB w v (.slice (some ⟨g, 0, none⟩) (len + P.length + (pk y).length) cap)) := by
        refine ⟨?_, ?_, ?_⟩
        · rw [HPN.out, show len + (P ++ pk y).length = len + P.length + (pk y).length by simp; omega]
          have e : (xs ++ (P ++ pk y)).map (Value.int .u8) = xs.map (Value.int .u8) ++ (P.map (Value.int .u8) ++ (pk y).map (Value.int .u8)) := by simp
          rw [e]
          exact r1
        · refine cg_lies HG.out HLI.out (cg_trans (cg_below HB1.out _) (cg_gb r2) (fun k hk h => h))
        · refine lies_trans HLI.out (fun j hj => ?_) HG.out.2.2.2.1
          cases hj
          rcases r3 with h | h
          · exact .inl h
          · exact .inr (by rw [h]; exact HB1.out.size)
      clear r1 r2 r3
      go_wp2
      go_roundw
      case rel => exact ⟨k + 1, _, by go_num, rfl, by omega, HF.out⟩
      case measure => simp [RowKit.intOf]; omega
    · obtain rfl : k = nn := by omega
      go_wp2
      go_ret
      refine ⟨_, rfl, ?_, HG.out, HLI.out⟩
      have := HO.out
      rw [HE.out] at this
      exact this
end Go.Proofs.Ytcbnmahbdcjamaa
