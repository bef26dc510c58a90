/- The walk of HoldOnce: what was added is told once, in order. -/
import Derived.Test.YtcmgmoacpkikdaaHoK
import Derived.Test.YtcmgmoacpkikdaaHoN
namespace Go.Proofs.Ytcmgmoacpkikdaa
open Go.RowKit Go.Sort
set_option linter.unusedVariables false
set_option linter.unusedSimpArgs false

/-- Any of the first k is it. -/
def anyK (xs : List Opn) (k : Nat) (x : Opn) : Prop := x ∈ xs.take k
/-- What was told last. -/
def lsK (L : List Opn) : Nat → Opn
  | 0 => op0
  | i + 1 => L.getD i op0
theorem anyK_snoc (xs : List Opn) (k : Nat) (x : Opn) (h : k < xs.length) : anyK xs (k + 1) x ↔ anyK xs k x ∨ xs.getD k op0 = x := by
  unfold anyK
  rw [take_nextH xs k h, List.mem_append, List.mem_singleton]
  constructor
  · rintro (q | q)
    · exact .inl q
    · exact .inr q.symm
  · rintro (q | q)
    · exact .inl q
    · exact .inr q.symm
set_option maxRecDepth 100000 in
set_option maxHeartbeats 16000000 in
theorem holdOnce_walk (xs : List Opn) (a : Option Addr) (len cap : Nat) (w : World) (hrd : RdP w a len xs) :
    Calls Try.prog 4 #[.slice a len cap] w fun e w' => e = .returned (.bool true) ∧ Below w.heap.size w w' := by
  have mixed : Try.prog.follows .mixedOrders = true := by kernel_rfl
  have HLX : Hid (xs.length = len) := hrd.1
  have HX : Hid (∀ w', Below w.heap.size w w' → RdP w' a len xs) := fun w' h => hrd.later h
  have HSH : Hid (Calls Try.prog 9 #[] w fun e w' => e = .returned (.bool true) ∧ Below w.heap.size w w') := shown16_any w
  have HNW : Hid (∀ w1, Below w.heap.size w w1 → Calls Try.prog 10 #[.int .i64 60] w1 fun e w' => ∃ P, e = .returned (.pointer (some ⟨P, 0, none⟩)) ∧ HoO w w' P 60 [] (fun _ => False)) := fun w1 hb => (h_new hb 60 (by omega) (fun _ => False) (fun _ h => h.elim)).mono (by
    rintro e w' ⟨P, rfl, q, _⟩
    exact ⟨P, rfl, q⟩)
  clear hrd
  go_enter Try.func4, Try.ntmps4
  go_upto_region 6 with (first
    | (go_at_call 9; refine HSH.out.mono ?_; rintro e w1 ⟨rfl, hb⟩; have HB1 : Hid (Below w.heap.size w w1) := hb; clear hb)
    | (go_at_call 10; refine (HNW.out _ HB1.out).mono ?_; rintro e w2 ⟨P, rfl, hs⟩; have HS0 : Hid (HoO w w2 P 60 (adsK 60 (xs.take 0)) (fun _ => False)) := hs; clear hs))
  clear HSH HNW HB1
  have HHS : Hid (∀ V l a s, HoO w V P 60 l (fun _ => False) → Calls Try.prog 18 #[.pointer (some ⟨P, 0, none⟩), .int .i64 a, .int .i64 s] V fun e w' => e = .returned (.bool (hasK l a s)) ∧ HoO w w' P 60 l (fun _ => False)) := fun V l a s h => (h_has h a s).mono (by
    rintro e w' ⟨rfl, q⟩
    exact ⟨rfl, h.later q⟩)
  have HAD : Hid (∀ V l o, HoO w V P 60 l (fun _ => False) → l.length < 60 → Calls Try.prog 20 #[.pointer (some ⟨P, 0, none⟩), o.val] V fun e w' => e = .returned (.int .i64 0) ∧ HoO w w' P 60 (addK l 60 o) (fun _ => False)) := fun V l o h hl => (h_add h o (by omega)).mono (by
    rintro e w' ⟨rfl, q⟩
    exact ⟨by rw [(addK_room hl).2], q.1⟩)
  have HLE : Hid (∀ V l hs, HoO w V P 60 l hs → Calls Try.prog 25 #[.pointer (some ⟨P, 0, none⟩)] V fun e w' => e = .returned (.int .i64 (l.length : Int)) ∧ w' = V) := fun V l hs h => h_len h
  have HRO : Hid (∀ V l hs, HoO w V P 60 l hs → Calls Try.prog 26 #[.pointer (some ⟨P, 0, none⟩)] V fun e w' => e = .returned (.int .i64 ((60 : Nat) - (l.length : Int))) ∧ w' = V.drew) := fun V l hs h => h_room h
  have HDR : Hid (∀ V l hs, HoO w V P 60 l hs → HoO w V.drew P 60 l hs) := fun V l hs h => h.later ((Below.refl _ _).drew)
  go_wp2
  go_loopw [5, 6] (fun x5 x6 wr => ∃ (i u : Nat), x6 = .int .i64 (i : Int) ∧ x5 = .int .i64 (u : Int) ∧ i ≤ len ∧ i ≤ 60 ∧ u = (adsK 60 (xs.take i)).length ∧ HoO w wr P 60 (adsK 60 (xs.take i)) (fun _ => False)) (fun _ x6 _ => 60 - (RowKit.intOf x6).toNat)
  case atStart => exact ⟨0, 0, rfl, rfl, by omega, by omega, rfl, HS0.out⟩
  case round =>
    obtain ⟨i, u, h6, h5, hil, hi60, hu, hs⟩ := hrel
    subst h6 h5
    have HU : Hid (u = (adsK 60 (xs.take i)).length) := hu
    have HS : Hid (HoO w wr P 60 (adsK 60 (xs.take i)) (fun _ => False)) := hs
    have hu60 : u ≤ 60 := by have := adsK_len 60 xs i; omega
    clear hu hs HS0
    by_cases hlt : i < len ∧ i < 60
    · obtain ⟨hlt, h60⟩ := hlt
      have hd1 : decide ((i : Int) < (len : Int)) = true := by simpa using hlt
      · have hd2 : decide ((i : Int) < 60) = true := decide_eq_true (by omega)
        obtain ⟨b1, o1, hab, -⟩ := (HX.out wr HS.out.below).at i hlt
        subst hab
        obtain ⟨p, hp⟩ : ∃ p, p = xs.getD i op0 := ⟨_, rfl⟩
        obtain ⟨L, hL⟩ : ∃ L, L = adsK 60 (xs.take i) := ⟨_, rfl⟩
        obtain ⟨L2, hL2⟩ : ∃ L2, L2 = addK L 60 p := ⟨_, rfl⟩
        have hll : L.length < 60 := by have := adsK_len 60 xs i; rw [hL]; omega
        have hnx : adsK 60 (xs.take (i + 1)) = L2 := by rw [adsK_snoc 60 xs i (by rw [HLX.out]; exact hlt), ← hL, ← hp, hL2]
        have HNX : Hid (adsK 60 (xs.take (i + 1)) = L2) := hnx
        have HXC : Hid (∀ w', Below w.heap.size w w' → w'.cell? ⟨b1, o1 + i * 7, none⟩ = some (.int .i64 p.c) ∧ w'.cell? ⟨b1, o1 + i * 7 + 1, none⟩ = some (.int .i64 p.a) ∧ w'.cell? ⟨b1, o1 + i * 7 + 2, none⟩ = some (.int .i64 p.s) ∧ w'.cell? ⟨b1, o1 + i * 7 + 3, none⟩ = some (.bool p.ins) ∧ w'.cell? ⟨b1, o1 + i * 7 + 4, none⟩ = some (.int .i64 p.rc) ∧ w'.cell? ⟨b1, o1 + i * 7 + 5, none⟩ = some (.int .i64 p.ra) ∧ w'.cell? ⟨b1, o1 + i * 7 + 6, none⟩ = some (.int .i32 p.ch)) := fun w' hb => by
          obtain ⟨b9, o9, h9, c9⟩ := (HX.out w' hb).at i hlt
          cases h9
          rw [hp]
          exact c9
        have HHL : Hid (∀ V, HoO w V P 60 L (fun _ => False) → Calls Try.prog 18 #[.pointer (some ⟨P, 0, none⟩), .int .i64 p.a, .int .i64 p.s] V fun e w' => e = .returned (.bool (hasK L p.a p.s)) ∧ HoO w w' P 60 L (fun _ => False)) := fun V h => HHS.out V L _ _ h
        have HA1p : Hid (∀ V, HoO w V P 60 L (fun _ => False) → Calls Try.prog 20 #[.pointer (some ⟨P, 0, none⟩), p.val] V fun e w' => e = .returned (.int .i64 0) ∧ HoO w w' P 60 L2 (fun _ => False)) := fun V h => by rw [hL2]; exact HAD.out V L p h hll
        have hrm := addK_room (o := p) hll
        rw [← hL2] at hrm
        have HA2p : Hid (∀ V, HoO w V P 60 L2 (fun _ => False) → Calls Try.prog 20 #[.pointer (some ⟨P, 0, none⟩), p.val] V fun e w' => e = .returned (.int .i64 0) ∧ HoO w w' P 60 L2 (fun _ => False)) := fun V h => (h_add h p (by have := h.room; omega)).mono (by
          rintro e w' ⟨rfl, q⟩
          obtain ⟨q1, q2⟩ := addK_has (r := 60) hrm.1
          rw [q1] at q
          exact ⟨by rw [q2], q.1⟩)
        have HH2p : Hid (∀ V, HoO w V P 60 L2 (fun _ => False) → Calls Try.prog 18 #[.pointer (some ⟨P, 0, none⟩), .int .i64 p.a, .int .i64 p.s] V fun e w' => e = .returned (.bool true) ∧ HoO w w' P 60 L2 (fun _ => False)) := fun V h => by
          have := HHS.out V L2 p.a p.s h
          rw [hrm.1] at this
          exact this
        have HSL : Hid (HoO w wr P 60 L (fun _ => False)) := by rw [hL]; exact HS.out
        have hul : u = L.length := by rw [hL]; exact HU.out
        have HSD : Hid (HoO w wr.drew P 60 L (fun _ => False)) := HDR.out _ _ _ HSL.out
        cases hz : hasK L p.a p.s
        · rw [hz] at HHL
          have HUL : Hid (L2.length = u + 1) := by show L2.length = u + 1; rw [hL2, (addK_new hz hll).1, putK_len, hul]
          clear hp hL hL2 hnx hrm hz hul hll HU HS HX
          obtain ⟨pc, pa, ps, pi, prc, pra, pch⟩ := p
          simp only [Opn.val] at HHL HA1p HA2p HH2p HXC
          have HXX : Hid (type_of% HXC.out) := HXC.out
          have HHZ : Hid (type_of% HHL.out) := HHL.out
          have HA1 : Hid (type_of% HA1p.out) := HA1p.out
          have HA2 : Hid (type_of% HA2p.out) := HA2p.out
          have HH2 : Hid (type_of% HH2p.out) := HH2p.out
          clear HXC HHL HA1p HA2p HH2p HAD HHS
          go_upto_region 9 with fail
          refine wp_region_noPanic ?_
          refine wp_region_held_drew (S := (fun w' => w'.cell? ⟨b1, o1 + i * 7, none⟩ = some (.int .i64 pc) ∧ w'.cell? ⟨b1, o1 + i * 7 + 1, none⟩ = some (.int .i64 pa) ∧ w'.cell? ⟨b1, o1 + i * 7 + 2, none⟩ = some (.int .i64 ps) ∧ w'.cell? ⟨b1, o1 + i * 7 + 3, none⟩ = some (.bool pi) ∧ w'.cell? ⟨b1, o1 + i * 7 + 4, none⟩ = some (.int .i64 prc) ∧ w'.cell? ⟨b1, o1 + i * 7 + 5, none⟩ = some (.int .i64 pra) ∧ w'.cell? ⟨b1, o1 + i * 7 + 6, none⟩ = some (.int .i32 pch))) (by kernel_rfl) (HXX.out _ HSD.out.below) (fun hHeld => ?_)
          refine wpAnyH_take (i := 0) (v := ?_) rfl (by kernel_rfl) (by kernel_rfl) (by kernel_rfl) (fun _ _ _ h => h) (Or.inl ⟨by rfl, ?_⟩) (by assumption) ?_
          rotate_left
          · intro W' hSw; obtain ⟨s0, s1, s2, s3, s4, s5, s6⟩ := hSw; go_simp; try with_reducible rfl
          try simp only [Act.put, List.getElem_toArray, List.getElem_cons_succ, List.getElem_cons_zero, List.setIfInBounds_toArray, List.set_cons_zero, List.set_cons_succ]
          refine wpAnyH_take (i := 1) (v := ?_) rfl (by kernel_rfl) (by kernel_rfl) (by kernel_rfl) (fun _ _ _ h => h) (Or.inl ⟨by rfl, ?_⟩) (by assumption) ?_
          rotate_left
          · intro W' hSw; obtain ⟨s0, s1, s2, s3, s4, s5, s6⟩ := hSw; go_simp; try with_reducible rfl
          try simp only [Act.put, List.getElem_toArray, List.getElem_cons_succ, List.getElem_cons_zero, List.setIfInBounds_toArray, List.set_cons_zero, List.set_cons_succ]
          refine wpAnyH_take (i := 2) (v := ?_) rfl (by kernel_rfl) (by kernel_rfl) (by kernel_rfl) (fun _ _ _ h => h) (Or.inl ⟨by rfl, ?_⟩) (by assumption) ?_
          rotate_left
          · intro W' hSw; obtain ⟨s0, s1, s2, s3, s4, s5, s6⟩ := hSw; go_simp; try with_reducible rfl
          try simp only [Act.put, List.getElem_toArray, List.getElem_cons_succ, List.getElem_cons_zero, List.setIfInBounds_toArray, List.set_cons_zero, List.set_cons_succ]
          refine wpAnyH_take (i := 3) (v := ?_) rfl (by kernel_rfl) (by kernel_rfl) (by kernel_rfl) (fun _ _ _ h => h) (Or.inl ⟨by rfl, ?_⟩) (by assumption) ?_
          rotate_left
          · intro W' hSw; obtain ⟨s0, s1, s2, s3, s4, s5, s6⟩ := hSw; go_simp; try with_reducible rfl
          try simp only [Act.put, List.getElem_toArray, List.getElem_cons_succ, List.getElem_cons_zero, List.setIfInBounds_toArray, List.set_cons_zero, List.set_cons_succ]
          refine wpAnyH_take (i := 4) (v := ?_) rfl (by kernel_rfl) (by kernel_rfl) (by kernel_rfl) (fun _ _ _ h => h) (Or.inl ⟨by rfl, ?_⟩) (by assumption) ?_
          rotate_left
          · intro W' hSw; obtain ⟨s0, s1, s2, s3, s4, s5, s6⟩ := hSw; go_simp; try with_reducible rfl
          try simp only [Act.put, List.getElem_toArray, List.getElem_cons_succ, List.getElem_cons_zero, List.setIfInBounds_toArray, List.set_cons_zero, List.set_cons_succ]
          refine wpAnyH_take (i := 5) (v := ?_) rfl (by kernel_rfl) (by kernel_rfl) (by kernel_rfl) (fun _ _ _ h => h) (Or.inl ⟨by rfl, ?_⟩) (by assumption) ?_
          rotate_left
          · intro W' hSw; obtain ⟨s0, s1, s2, s3, s4, s5, s6⟩ := hSw; go_simp; try with_reducible rfl
          try simp only [Act.put, List.getElem_toArray, List.getElem_cons_succ, List.getElem_cons_zero, List.setIfInBounds_toArray, List.set_cons_zero, List.set_cons_succ]
          refine wpAnyH_take (i := 6) (v := ?_) rfl (by kernel_rfl) (by kernel_rfl) (by kernel_rfl) (fun _ _ _ h => h) (Or.inl ⟨by rfl, ?_⟩) (by assumption) ?_
          rotate_left
          · intro W' hSw; obtain ⟨s0, s1, s2, s3, s4, s5, s6⟩ := hSw; go_simp; try with_reducible rfl
          try simp only [Act.put, List.getElem_toArray, List.getElem_cons_succ, List.getElem_cons_zero, List.setIfInBounds_toArray, List.set_cons_zero, List.set_cons_succ]
          refine wpAnyH_take (i := 7) (v := ?_) rfl (by kernel_rfl) (by kernel_rfl) (by kernel_rfl) (fun _ _ _ h => h) (Or.inl ⟨by rfl, ?_⟩) (by assumption) ?_
          rotate_left
          · intro W' hSw; obtain ⟨s0, s1, s2, s3, s4, s5, s6⟩ := hSw; go_simp; try with_reducible rfl
          try simp only [Act.put, List.getElem_toArray, List.getElem_cons_succ, List.getElem_cons_zero, List.setIfInBounds_toArray, List.set_cons_zero, List.set_cons_succ]
          refine wpAnyH_take (i := 8) (v := ?_) rfl (by kernel_rfl) (by kernel_rfl) (by kernel_rfl) (fun _ _ _ h => h) (Or.inl ⟨by rfl, ?_⟩) (by assumption) ?_
          rotate_left
          · intro W' hSw; obtain ⟨s0, s1, s2, s3, s4, s5, s6⟩ := hSw; go_simp; try with_reducible rfl
          try simp only [Act.put, List.getElem_toArray, List.getElem_cons_succ, List.getElem_cons_zero, List.setIfInBounds_toArray, List.set_cons_zero, List.set_cons_succ]
          refine wpAnyH_take (i := 9) (v := ?_) rfl (by kernel_rfl) (by kernel_rfl) (by kernel_rfl) (fun _ _ _ h => h) (Or.inl ⟨by rfl, ?_⟩) (by assumption) ?_
          rotate_left
          · intro W' hSw; obtain ⟨s0, s1, s2, s3, s4, s5, s6⟩ := hSw; go_simp; try with_reducible rfl
          try simp only [Act.put, List.getElem_toArray, List.getElem_cons_succ, List.getElem_cons_zero, List.setIfInBounds_toArray, List.set_cons_zero, List.set_cons_succ]
          refine wpAnyH_take (i := 10) (v := ?_) rfl (by kernel_rfl) (by kernel_rfl) (by kernel_rfl) (fun _ _ _ h => h) (Or.inl ⟨by rfl, ?_⟩) (by assumption) ?_
          rotate_left
          · intro W' hSw; obtain ⟨s0, s1, s2, s3, s4, s5, s6⟩ := hSw; go_simp; try with_reducible rfl
          try simp only [Act.put, List.getElem_toArray, List.getElem_cons_succ, List.getElem_cons_zero, List.setIfInBounds_toArray, List.set_cons_zero, List.set_cons_succ]
          refine wpAnyH_take (i := 11) (v := ?_) rfl (by kernel_rfl) (by kernel_rfl) (by kernel_rfl) (fun _ _ _ h => h) (Or.inl ⟨by rfl, ?_⟩) (by assumption) ?_
          rotate_left
          · intro W' hSw; obtain ⟨s0, s1, s2, s3, s4, s5, s6⟩ := hSw; go_simp; try with_reducible rfl
          try simp only [Act.put, List.getElem_toArray, List.getElem_cons_succ, List.getElem_cons_zero, List.setIfInBounds_toArray, List.set_cons_zero, List.set_cons_succ]
          refine wpAnyH_ready (rs := [12]) (by kernel_rfl) (by simp) ?_
          refine AllReadyH.cons rfl (fun KK hK => ?_) AllReadyH.nil
          go_simp
          refine (HHZ.out _ HSD.out).mono ?_
          rintro e w3 ⟨rfl, h3⟩
          have HS3 : Hid (HoO w w3 P 60 L (fun _ => False)) := h3
          clear h3
          refine hK.out _ _ (HXX.out _ HS3.out.below) (fun hHeld => ?_)
          clear hK KK
          try simp only [Act.put, List.getElem_toArray, List.getElem_cons_succ, List.getElem_cons_zero, List.setIfInBounds_toArray, List.set_cons_zero, List.set_cons_succ]
          refine wpAnyH_take (i := 13) (v := ?_) rfl (by kernel_rfl) (by kernel_rfl) (by kernel_rfl) (fun _ _ _ h => h) (Or.inl ⟨by rfl, ?_⟩) (by assumption) ?_
          rotate_left
          · intro W' hSw; obtain ⟨s0, s1, s2, s3, s4, s5, s6⟩ := hSw; go_simp; try with_reducible rfl
          try simp only [Act.put, List.getElem_toArray, List.getElem_cons_succ, List.getElem_cons_zero, List.setIfInBounds_toArray, List.set_cons_zero, List.set_cons_succ]
          refine wpAnyH_done (by kernel_rfl) ?_ _
          refine NoPanic.normal ?_
          clear hHeld
          go_upto_region 11 with fail
          have HS4 : Hid (HoO w w3.drew P 60 L (fun _ => False)) := HDR.out _ _ _ HS3.out
          refine wp_region_noPanic ?_
          refine wp_region_held_drew (S := (fun w' => w'.cell? ⟨b1, o1 + i * 7, none⟩ = some (.int .i64 pc) ∧ w'.cell? ⟨b1, o1 + i * 7 + 1, none⟩ = some (.int .i64 pa) ∧ w'.cell? ⟨b1, o1 + i * 7 + 2, none⟩ = some (.int .i64 ps) ∧ w'.cell? ⟨b1, o1 + i * 7 + 3, none⟩ = some (.bool pi) ∧ w'.cell? ⟨b1, o1 + i * 7 + 4, none⟩ = some (.int .i64 prc) ∧ w'.cell? ⟨b1, o1 + i * 7 + 5, none⟩ = some (.int .i64 pra) ∧ w'.cell? ⟨b1, o1 + i * 7 + 6, none⟩ = some (.int .i32 pch))) (by kernel_rfl) (HXX.out _ HS4.out.below) (fun hHeld => ?_)
          refine wpAnyH_take (i := 0) (v := ?_) rfl (by kernel_rfl) (by kernel_rfl) (by kernel_rfl) (fun _ _ _ h => h) (Or.inl ⟨by rfl, ?_⟩) (by assumption) ?_
          rotate_left
          · intro W' hSw; obtain ⟨s0, s1, s2, s3, s4, s5, s6⟩ := hSw; go_simp; try with_reducible rfl
          try simp only [Act.put, List.getElem_toArray, List.getElem_cons_succ, List.getElem_cons_zero, List.setIfInBounds_toArray, List.set_cons_zero, List.set_cons_succ]
          refine wpAnyH_take (i := 1) (v := ?_) rfl (by kernel_rfl) (by kernel_rfl) (by kernel_rfl) (fun _ _ _ h => h) (Or.inl ⟨by rfl, ?_⟩) (by assumption) ?_
          rotate_left
          · intro W' hSw; obtain ⟨s0, s1, s2, s3, s4, s5, s6⟩ := hSw; go_simp; try with_reducible rfl
          try simp only [Act.put, List.getElem_toArray, List.getElem_cons_succ, List.getElem_cons_zero, List.setIfInBounds_toArray, List.set_cons_zero, List.set_cons_succ]
          refine wpAnyH_take (i := 2) (v := ?_) rfl (by kernel_rfl) (by kernel_rfl) (by kernel_rfl) (fun _ _ _ h => h) (Or.inl ⟨by rfl, ?_⟩) (by assumption) ?_
          rotate_left
          · intro W' hSw; obtain ⟨s0, s1, s2, s3, s4, s5, s6⟩ := hSw; go_simp; try with_reducible rfl
          try simp only [Act.put, List.getElem_toArray, List.getElem_cons_succ, List.getElem_cons_zero, List.setIfInBounds_toArray, List.set_cons_zero, List.set_cons_succ]
          refine wpAnyH_take (i := 3) (v := ?_) rfl (by kernel_rfl) (by kernel_rfl) (by kernel_rfl) (fun _ _ _ h => h) (Or.inl ⟨by rfl, ?_⟩) (by assumption) ?_
          rotate_left
          · intro W' hSw; obtain ⟨s0, s1, s2, s3, s4, s5, s6⟩ := hSw; go_simp; try with_reducible rfl
          try simp only [Act.put, List.getElem_toArray, List.getElem_cons_succ, List.getElem_cons_zero, List.setIfInBounds_toArray, List.set_cons_zero, List.set_cons_succ]
          refine wpAnyH_take (i := 4) (v := ?_) rfl (by kernel_rfl) (by kernel_rfl) (by kernel_rfl) (fun _ _ _ h => h) (Or.inl ⟨by rfl, ?_⟩) (by assumption) ?_
          rotate_left
          · intro W' hSw; obtain ⟨s0, s1, s2, s3, s4, s5, s6⟩ := hSw; go_simp; try with_reducible rfl
          try simp only [Act.put, List.getElem_toArray, List.getElem_cons_succ, List.getElem_cons_zero, List.setIfInBounds_toArray, List.set_cons_zero, List.set_cons_succ]
          refine wpAnyH_ready (rs := [5]) (by kernel_rfl) (by simp) ?_
          refine AllReadyH.cons rfl (fun KK hK => ?_) AllReadyH.nil
          go_simp
          refine (HA1.out _ HS4.out).mono ?_
          rintro e w5 ⟨rfl, h3⟩
          have HS5 : Hid (HoO w w5 P 60 L2 (fun _ => False)) := h3
          clear h3
          refine hK.out _ _ (HXX.out _ HS5.out.below) (fun hHeld => ?_)
          clear hK KK
          try simp only [Act.put, List.getElem_toArray, List.getElem_cons_succ, List.getElem_cons_zero, List.setIfInBounds_toArray, List.set_cons_zero, List.set_cons_succ]
          refine wpAnyH_take (i := 6) (v := ?_) rfl (by kernel_rfl) (by kernel_rfl) (by kernel_rfl) (fun _ _ _ h => h) (Or.inl ⟨by rfl, ?_⟩) (by assumption) ?_
          rotate_left
          · intro W' hSw; obtain ⟨s0, s1, s2, s3, s4, s5, s6⟩ := hSw; go_simp; try with_reducible rfl
          try simp only [Act.put, List.getElem_toArray, List.getElem_cons_succ, List.getElem_cons_zero, List.setIfInBounds_toArray, List.set_cons_zero, List.set_cons_succ]
          refine wpAnyH_take (i := 7) (v := ?_) rfl (by kernel_rfl) (by kernel_rfl) (by kernel_rfl) (fun _ _ _ h => h) (Or.inl ⟨by rfl, ?_⟩) (by assumption) ?_
          rotate_left
          · intro W' hSw; obtain ⟨s0, s1, s2, s3, s4, s5, s6⟩ := hSw; go_simp; try with_reducible rfl
          try simp only [Act.put, List.getElem_toArray, List.getElem_cons_succ, List.getElem_cons_zero, List.setIfInBounds_toArray, List.set_cons_zero, List.set_cons_succ]
          refine wpAnyH_take (i := 8) (v := ?_) rfl (by kernel_rfl) (by kernel_rfl) (by kernel_rfl) (fun _ _ _ h => h) (Or.inl ⟨by rfl, ?_⟩) (by assumption) ?_
          rotate_left
          · intro W' hSw; obtain ⟨s0, s1, s2, s3, s4, s5, s6⟩ := hSw; go_simp; try with_reducible rfl
          try simp only [Act.put, List.getElem_toArray, List.getElem_cons_succ, List.getElem_cons_zero, List.setIfInBounds_toArray, List.set_cons_zero, List.set_cons_succ]
          refine wpAnyH_take (i := 9) (v := ?_) rfl (by kernel_rfl) (by kernel_rfl) (by kernel_rfl) (fun _ _ _ h => h) (Or.inl ⟨by rfl, ?_⟩) (by assumption) ?_
          rotate_left
          · intro W' hSw; obtain ⟨s0, s1, s2, s3, s4, s5, s6⟩ := hSw; go_simp; try with_reducible rfl
          try simp only [Act.put, List.getElem_toArray, List.getElem_cons_succ, List.getElem_cons_zero, List.setIfInBounds_toArray, List.set_cons_zero, List.set_cons_succ]
          refine wpAnyH_take (i := 10) (v := ?_) rfl (by kernel_rfl) (by kernel_rfl) (by kernel_rfl) (fun _ _ _ h => h) (Or.inl ⟨by rfl, ?_⟩) (by assumption) ?_
          rotate_left
          · intro W' hSw; obtain ⟨s0, s1, s2, s3, s4, s5, s6⟩ := hSw; go_simp; try with_reducible rfl
          try simp only [Act.put, List.getElem_toArray, List.getElem_cons_succ, List.getElem_cons_zero, List.setIfInBounds_toArray, List.set_cons_zero, List.set_cons_succ]
          refine wpAnyH_take (i := 11) (v := ?_) rfl (by kernel_rfl) (by kernel_rfl) (by kernel_rfl) (fun _ _ _ h => h) (Or.inl ⟨by rfl, ?_⟩) (by assumption) ?_
          rotate_left
          · intro W' hSw; obtain ⟨s0, s1, s2, s3, s4, s5, s6⟩ := hSw; go_simp; try with_reducible rfl
          try simp only [Act.put, List.getElem_toArray, List.getElem_cons_succ, List.getElem_cons_zero, List.setIfInBounds_toArray, List.set_cons_zero, List.set_cons_succ]
          refine wpAnyH_take (i := 12) (v := ?_) rfl (by kernel_rfl) (by kernel_rfl) (by kernel_rfl) (fun _ _ _ h => h) (Or.inl ⟨by rfl, ?_⟩) (by assumption) ?_
          rotate_left
          · intro W' hSw; obtain ⟨s0, s1, s2, s3, s4, s5, s6⟩ := hSw; go_simp; try with_reducible rfl
          try simp only [Act.put, List.getElem_toArray, List.getElem_cons_succ, List.getElem_cons_zero, List.setIfInBounds_toArray, List.set_cons_zero, List.set_cons_succ]
          refine wpAnyH_ready (rs := [13]) (by kernel_rfl) (by simp) ?_
          refine AllReadyH.cons rfl (fun KK hK => ?_) AllReadyH.nil
          go_simp
          refine (HA2.out _ HS5.out).mono ?_
          rintro e w6 ⟨rfl, h3⟩
          have HS6 : Hid (HoO w w6 P 60 L2 (fun _ => False)) := h3
          clear h3
          refine hK.out _ _ (HXX.out _ HS6.out.below) (fun hHeld => ?_)
          clear hK KK
          try simp only [Act.put, List.getElem_toArray, List.getElem_cons_succ, List.getElem_cons_zero, List.setIfInBounds_toArray, List.set_cons_zero, List.set_cons_succ]
          refine wpAnyH_take (i := 14) (v := ?_) rfl (by kernel_rfl) (by kernel_rfl) (by kernel_rfl) (fun _ _ _ h => h) (Or.inl ⟨by rfl, ?_⟩) (by assumption) ?_
          rotate_left
          · intro W' hSw; obtain ⟨s0, s1, s2, s3, s4, s5, s6⟩ := hSw; go_simp; try with_reducible rfl
          try simp only [Act.put, List.getElem_toArray, List.getElem_cons_succ, List.getElem_cons_zero, List.setIfInBounds_toArray, List.set_cons_zero, List.set_cons_succ]
          refine wpAnyH_take (i := 15) (v := ?_) rfl (by kernel_rfl) (by kernel_rfl) (by kernel_rfl) (fun _ _ _ h => h) (Or.inl ⟨by rfl, ?_⟩) (by assumption) ?_
          rotate_left
          · intro W' hSw; obtain ⟨s0, s1, s2, s3, s4, s5, s6⟩ := hSw; go_simp; try with_reducible rfl
          try simp only [Act.put, List.getElem_toArray, List.getElem_cons_succ, List.getElem_cons_zero, List.setIfInBounds_toArray, List.set_cons_zero, List.set_cons_succ]
          refine wpAnyH_take (i := 16) (v := ?_) rfl (by kernel_rfl) (by kernel_rfl) (by kernel_rfl) (fun _ _ _ h => h) (Or.inl ⟨by rfl, ?_⟩) (by assumption) ?_
          rotate_left
          · intro W' hSw; obtain ⟨s0, s1, s2, s3, s4, s5, s6⟩ := hSw; go_simp; try with_reducible rfl
          try simp only [Act.put, List.getElem_toArray, List.getElem_cons_succ, List.getElem_cons_zero, List.setIfInBounds_toArray, List.set_cons_zero, List.set_cons_succ]
          refine wpAnyH_take (i := 17) (v := ?_) rfl (by kernel_rfl) (by kernel_rfl) (by kernel_rfl) (fun _ _ _ h => h) (Or.inl ⟨by rfl, ?_⟩) (by assumption) ?_
          rotate_left
          · intro W' hSw; obtain ⟨s0, s1, s2, s3, s4, s5, s6⟩ := hSw; go_simp; try with_reducible rfl
          try simp only [Act.put, List.getElem_toArray, List.getElem_cons_succ, List.getElem_cons_zero, List.setIfInBounds_toArray, List.set_cons_zero, List.set_cons_succ]
          refine wpAnyH_take (i := 18) (v := ?_) rfl (by kernel_rfl) (by kernel_rfl) (by kernel_rfl) (fun _ _ _ h => h) (Or.inl ⟨by rfl, ?_⟩) (by assumption) ?_
          rotate_left
          · intro W' hSw; obtain ⟨s0, s1, s2, s3, s4, s5, s6⟩ := hSw; go_simp; try with_reducible rfl
          try simp only [Act.put, List.getElem_toArray, List.getElem_cons_succ, List.getElem_cons_zero, List.setIfInBounds_toArray, List.set_cons_zero, List.set_cons_succ]
          refine wpAnyH_take (i := 19) (v := ?_) rfl (by kernel_rfl) (by kernel_rfl) (by kernel_rfl) (fun _ _ _ h => h) (Or.inl ⟨by rfl, ?_⟩) (by assumption) ?_
          rotate_left
          · intro W' hSw; obtain ⟨s0, s1, s2, s3, s4, s5, s6⟩ := hSw; go_simp; try with_reducible rfl
          try simp only [Act.put, List.getElem_toArray, List.getElem_cons_succ, List.getElem_cons_zero, List.setIfInBounds_toArray, List.set_cons_zero, List.set_cons_succ]
          refine wpAnyH_take (i := 20) (v := ?_) rfl (by kernel_rfl) (by kernel_rfl) (by kernel_rfl) (fun _ _ _ h => h) (Or.inl ⟨by rfl, ?_⟩) (by assumption) ?_
          rotate_left
          · intro W' hSw; obtain ⟨s0, s1, s2, s3, s4, s5, s6⟩ := hSw; go_simp; try with_reducible rfl
          try simp only [Act.put, List.getElem_toArray, List.getElem_cons_succ, List.getElem_cons_zero, List.setIfInBounds_toArray, List.set_cons_zero, List.set_cons_succ]
          refine wpAnyH_take (i := 21) (v := ?_) rfl (by kernel_rfl) (by kernel_rfl) (by kernel_rfl) (fun _ _ _ h => h) (Or.inl ⟨by rfl, ?_⟩) (by assumption) ?_
          rotate_left
          · intro W' hSw; obtain ⟨s0, s1, s2, s3, s4, s5, s6⟩ := hSw; go_simp; try with_reducible rfl
          try simp only [Act.put, List.getElem_toArray, List.getElem_cons_succ, List.getElem_cons_zero, List.setIfInBounds_toArray, List.set_cons_zero, List.set_cons_succ]
          refine wpAnyH_take (i := 22) (v := ?_) rfl (by kernel_rfl) (by kernel_rfl) (by kernel_rfl) (fun _ _ _ h => h) (Or.inl ⟨by rfl, ?_⟩) (by assumption) ?_
          rotate_left
          · intro W' hSw; obtain ⟨s0, s1, s2, s3, s4, s5, s6⟩ := hSw; go_simp; try with_reducible rfl
          try simp only [Act.put, List.getElem_toArray, List.getElem_cons_succ, List.getElem_cons_zero, List.setIfInBounds_toArray, List.set_cons_zero, List.set_cons_succ]
          refine wpAnyH_take (i := 23) (v := ?_) rfl (by kernel_rfl) (by kernel_rfl) (by kernel_rfl) (fun _ _ _ h => h) (Or.inl ⟨by rfl, ?_⟩) (by assumption) ?_
          rotate_left
          · intro W' hSw; obtain ⟨s0, s1, s2, s3, s4, s5, s6⟩ := hSw; go_simp; try with_reducible rfl
          try simp only [Act.put, List.getElem_toArray, List.getElem_cons_succ, List.getElem_cons_zero, List.setIfInBounds_toArray, List.set_cons_zero, List.set_cons_succ]
          refine wpAnyH_take (i := 24) (v := ?_) rfl (by kernel_rfl) (by kernel_rfl) (by kernel_rfl) (fun _ _ _ h => h) (Or.inl ⟨by rfl, ?_⟩) (by assumption) ?_
          rotate_left
          · intro W' hSw; obtain ⟨s0, s1, s2, s3, s4, s5, s6⟩ := hSw; go_simp; try with_reducible rfl
          try simp only [Act.put, List.getElem_toArray, List.getElem_cons_succ, List.getElem_cons_zero, List.setIfInBounds_toArray, List.set_cons_zero, List.set_cons_succ]
          refine wpAnyH_take (i := 25) (v := ?_) rfl (by kernel_rfl) (by kernel_rfl) (by kernel_rfl) (fun _ _ _ h => h) (Or.inl ⟨by rfl, ?_⟩) (by assumption) ?_
          rotate_left
          · intro W' hSw; obtain ⟨s0, s1, s2, s3, s4, s5, s6⟩ := hSw; go_simp; try with_reducible rfl
          try simp only [Act.put, List.getElem_toArray, List.getElem_cons_succ, List.getElem_cons_zero, List.setIfInBounds_toArray, List.set_cons_zero, List.set_cons_succ]
          refine wpAnyH_take (i := 26) (v := ?_) rfl (by kernel_rfl) (by kernel_rfl) (by kernel_rfl) (fun _ _ _ h => h) (Or.inl ⟨by rfl, ?_⟩) (by assumption) ?_
          rotate_left
          · intro W' hSw; obtain ⟨s0, s1, s2, s3, s4, s5, s6⟩ := hSw; go_simp; try with_reducible rfl
          try simp only [Act.put, List.getElem_toArray, List.getElem_cons_succ, List.getElem_cons_zero, List.setIfInBounds_toArray, List.set_cons_zero, List.set_cons_succ]
          refine wpAnyH_take (i := 27) (v := ?_) rfl (by kernel_rfl) (by kernel_rfl) (by kernel_rfl) (fun _ _ _ h => h) (Or.inl ⟨by rfl, ?_⟩) (by assumption) ?_
          rotate_left
          · intro W' hSw; obtain ⟨s0, s1, s2, s3, s4, s5, s6⟩ := hSw; go_simp; try with_reducible rfl
          try simp only [Act.put, List.getElem_toArray, List.getElem_cons_succ, List.getElem_cons_zero, List.setIfInBounds_toArray, List.set_cons_zero, List.set_cons_succ]
          refine wpAnyH_take (i := 28) (v := ?_) rfl (by kernel_rfl) (by kernel_rfl) (by kernel_rfl) (fun _ _ _ h => h) (Or.inl ⟨by rfl, ?_⟩) (by assumption) ?_
          rotate_left
          · intro W' hSw; obtain ⟨s0, s1, s2, s3, s4, s5, s6⟩ := hSw; go_simp; try with_reducible rfl
          try simp only [Act.put, List.getElem_toArray, List.getElem_cons_succ, List.getElem_cons_zero, List.setIfInBounds_toArray, List.set_cons_zero, List.set_cons_succ]
          refine wpAnyH_ready (rs := [29]) (by kernel_rfl) (by simp) ?_
          refine AllReadyH.cons rfl (fun KK hK => ?_) AllReadyH.nil
          go_simp
          refine (HH2.out _ HS6.out).mono ?_
          rintro e w7 ⟨rfl, h3⟩
          have HS7 : Hid (HoO w w7 P 60 L2 (fun _ => False)) := h3
          clear h3
          refine hK.out _ _ (HXX.out _ HS7.out.below) (fun hHeld => ?_)
          clear hK KK
          try simp only [Act.put, List.getElem_toArray, List.getElem_cons_succ, List.getElem_cons_zero, List.setIfInBounds_toArray, List.set_cons_zero, List.set_cons_succ]
          refine wpAnyH_take (i := 30) (v := ?_) rfl (by kernel_rfl) (by kernel_rfl) (by kernel_rfl) (fun _ _ _ h => h) (Or.inl ⟨by rfl, ?_⟩) (by assumption) ?_
          rotate_left
          · intro W' hSw; obtain ⟨s0, s1, s2, s3, s4, s5, s6⟩ := hSw; go_simp; try with_reducible rfl
          try simp only [Act.put, List.getElem_toArray, List.getElem_cons_succ, List.getElem_cons_zero, List.setIfInBounds_toArray, List.set_cons_zero, List.set_cons_succ]
          refine wpAnyH_take (i := 31) (v := ?_) rfl (by kernel_rfl) (by kernel_rfl) (by kernel_rfl) (fun _ _ _ h => h) (Or.inl ⟨by rfl, ?_⟩) (by assumption) ?_
          rotate_left
          · intro W' hSw; obtain ⟨s0, s1, s2, s3, s4, s5, s6⟩ := hSw; go_simp; try with_reducible rfl
          try simp only [Act.put, List.getElem_toArray, List.getElem_cons_succ, List.getElem_cons_zero, List.setIfInBounds_toArray, List.set_cons_zero, List.set_cons_succ]
          refine wpAnyH_done (by kernel_rfl) ?_ _
          refine NoPanic.normal ?_
          clear hHeld
          go_wp2
          go_roundw
          case rel => exact ⟨i + 1, u + 1, by go_num, by go_num, by omega, by omega, by rw [HNX.out, HUL.out], by rw [HNX.out]; exact HS7.out⟩
          case measure => simp [RowKit.intOf]; omega
        · rw [hz] at HHL
          have HUL : Hid (L2.length = u) := by show L2.length = u; rw [hL2, (addK_has hz).1, hul]
          clear hp hL hL2 hnx hrm hz hul hll HU HS HX
          obtain ⟨pc, pa, ps, pi, prc, pra, pch⟩ := p
          simp only [Opn.val] at HHL HA1p HA2p HH2p HXC
          have HXX : Hid (type_of% HXC.out) := HXC.out
          have HHZ : Hid (type_of% HHL.out) := HHL.out
          have HA1 : Hid (type_of% HA1p.out) := HA1p.out
          have HA2 : Hid (type_of% HA2p.out) := HA2p.out
          have HH2 : Hid (type_of% HH2p.out) := HH2p.out
          clear HXC HHL HA1p HA2p HH2p HAD HHS
          go_upto_region 9 with fail
          refine wp_region_noPanic ?_
          refine wp_region_held_drew (S := (fun w' => w'.cell? ⟨b1, o1 + i * 7, none⟩ = some (.int .i64 pc) ∧ w'.cell? ⟨b1, o1 + i * 7 + 1, none⟩ = some (.int .i64 pa) ∧ w'.cell? ⟨b1, o1 + i * 7 + 2, none⟩ = some (.int .i64 ps) ∧ w'.cell? ⟨b1, o1 + i * 7 + 3, none⟩ = some (.bool pi) ∧ w'.cell? ⟨b1, o1 + i * 7 + 4, none⟩ = some (.int .i64 prc) ∧ w'.cell? ⟨b1, o1 + i * 7 + 5, none⟩ = some (.int .i64 pra) ∧ w'.cell? ⟨b1, o1 + i * 7 + 6, none⟩ = some (.int .i32 pch))) (by kernel_rfl) (HXX.out _ HSD.out.below) (fun hHeld => ?_)
          refine wpAnyH_take (i := 0) (v := ?_) rfl (by kernel_rfl) (by kernel_rfl) (by kernel_rfl) (fun _ _ _ h => h) (Or.inl ⟨by rfl, ?_⟩) (by assumption) ?_
          rotate_left
          · intro W' hSw; obtain ⟨s0, s1, s2, s3, s4, s5, s6⟩ := hSw; go_simp; try with_reducible rfl
          try simp only [Act.put, List.getElem_toArray, List.getElem_cons_succ, List.getElem_cons_zero, List.setIfInBounds_toArray, List.set_cons_zero, List.set_cons_succ]
          refine wpAnyH_take (i := 1) (v := ?_) rfl (by kernel_rfl) (by kernel_rfl) (by kernel_rfl) (fun _ _ _ h => h) (Or.inl ⟨by rfl, ?_⟩) (by assumption) ?_
          rotate_left
          · intro W' hSw; obtain ⟨s0, s1, s2, s3, s4, s5, s6⟩ := hSw; go_simp; try with_reducible rfl
          try simp only [Act.put, List.getElem_toArray, List.getElem_cons_succ, List.getElem_cons_zero, List.setIfInBounds_toArray, List.set_cons_zero, List.set_cons_succ]
          refine wpAnyH_take (i := 2) (v := ?_) rfl (by kernel_rfl) (by kernel_rfl) (by kernel_rfl) (fun _ _ _ h => h) (Or.inl ⟨by rfl, ?_⟩) (by assumption) ?_
          rotate_left
          · intro W' hSw; obtain ⟨s0, s1, s2, s3, s4, s5, s6⟩ := hSw; go_simp; try with_reducible rfl
          try simp only [Act.put, List.getElem_toArray, List.getElem_cons_succ, List.getElem_cons_zero, List.setIfInBounds_toArray, List.set_cons_zero, List.set_cons_succ]
          refine wpAnyH_take (i := 3) (v := ?_) rfl (by kernel_rfl) (by kernel_rfl) (by kernel_rfl) (fun _ _ _ h => h) (Or.inl ⟨by rfl, ?_⟩) (by assumption) ?_
          rotate_left
          · intro W' hSw; obtain ⟨s0, s1, s2, s3, s4, s5, s6⟩ := hSw; go_simp; try with_reducible rfl
          try simp only [Act.put, List.getElem_toArray, List.getElem_cons_succ, List.getElem_cons_zero, List.setIfInBounds_toArray, List.set_cons_zero, List.set_cons_succ]
          refine wpAnyH_take (i := 4) (v := ?_) rfl (by kernel_rfl) (by kernel_rfl) (by kernel_rfl) (fun _ _ _ h => h) (Or.inl ⟨by rfl, ?_⟩) (by assumption) ?_
          rotate_left
          · intro W' hSw; obtain ⟨s0, s1, s2, s3, s4, s5, s6⟩ := hSw; go_simp; try with_reducible rfl
          try simp only [Act.put, List.getElem_toArray, List.getElem_cons_succ, List.getElem_cons_zero, List.setIfInBounds_toArray, List.set_cons_zero, List.set_cons_succ]
          refine wpAnyH_take (i := 5) (v := ?_) rfl (by kernel_rfl) (by kernel_rfl) (by kernel_rfl) (fun _ _ _ h => h) (Or.inl ⟨by rfl, ?_⟩) (by assumption) ?_
          rotate_left
          · intro W' hSw; obtain ⟨s0, s1, s2, s3, s4, s5, s6⟩ := hSw; go_simp; try with_reducible rfl
          try simp only [Act.put, List.getElem_toArray, List.getElem_cons_succ, List.getElem_cons_zero, List.setIfInBounds_toArray, List.set_cons_zero, List.set_cons_succ]
          refine wpAnyH_take (i := 6) (v := ?_) rfl (by kernel_rfl) (by kernel_rfl) (by kernel_rfl) (fun _ _ _ h => h) (Or.inl ⟨by rfl, ?_⟩) (by assumption) ?_
          rotate_left
          · intro W' hSw; obtain ⟨s0, s1, s2, s3, s4, s5, s6⟩ := hSw; go_simp; try with_reducible rfl
          try simp only [Act.put, List.getElem_toArray, List.getElem_cons_succ, List.getElem_cons_zero, List.setIfInBounds_toArray, List.set_cons_zero, List.set_cons_succ]
          refine wpAnyH_take (i := 7) (v := ?_) rfl (by kernel_rfl) (by kernel_rfl) (by kernel_rfl) (fun _ _ _ h => h) (Or.inl ⟨by rfl, ?_⟩) (by assumption) ?_
          rotate_left
          · intro W' hSw; obtain ⟨s0, s1, s2, s3, s4, s5, s6⟩ := hSw; go_simp; try with_reducible rfl
          try simp only [Act.put, List.getElem_toArray, List.getElem_cons_succ, List.getElem_cons_zero, List.setIfInBounds_toArray, List.set_cons_zero, List.set_cons_succ]
          refine wpAnyH_take (i := 8) (v := ?_) rfl (by kernel_rfl) (by kernel_rfl) (by kernel_rfl) (fun _ _ _ h => h) (Or.inl ⟨by rfl, ?_⟩) (by assumption) ?_
          rotate_left
          · intro W' hSw; obtain ⟨s0, s1, s2, s3, s4, s5, s6⟩ := hSw; go_simp; try with_reducible rfl
          try simp only [Act.put, List.getElem_toArray, List.getElem_cons_succ, List.getElem_cons_zero, List.setIfInBounds_toArray, List.set_cons_zero, List.set_cons_succ]
          refine wpAnyH_take (i := 9) (v := ?_) rfl (by kernel_rfl) (by kernel_rfl) (by kernel_rfl) (fun _ _ _ h => h) (Or.inl ⟨by rfl, ?_⟩) (by assumption) ?_
          rotate_left
          · intro W' hSw; obtain ⟨s0, s1, s2, s3, s4, s5, s6⟩ := hSw; go_simp; try with_reducible rfl
          try simp only [Act.put, List.getElem_toArray, List.getElem_cons_succ, List.getElem_cons_zero, List.setIfInBounds_toArray, List.set_cons_zero, List.set_cons_succ]
          refine wpAnyH_take (i := 10) (v := ?_) rfl (by kernel_rfl) (by kernel_rfl) (by kernel_rfl) (fun _ _ _ h => h) (Or.inl ⟨by rfl, ?_⟩) (by assumption) ?_
          rotate_left
          · intro W' hSw; obtain ⟨s0, s1, s2, s3, s4, s5, s6⟩ := hSw; go_simp; try with_reducible rfl
          try simp only [Act.put, List.getElem_toArray, List.getElem_cons_succ, List.getElem_cons_zero, List.setIfInBounds_toArray, List.set_cons_zero, List.set_cons_succ]
          refine wpAnyH_take (i := 11) (v := ?_) rfl (by kernel_rfl) (by kernel_rfl) (by kernel_rfl) (fun _ _ _ h => h) (Or.inl ⟨by rfl, ?_⟩) (by assumption) ?_
          rotate_left
          · intro W' hSw; obtain ⟨s0, s1, s2, s3, s4, s5, s6⟩ := hSw; go_simp; try with_reducible rfl
          try simp only [Act.put, List.getElem_toArray, List.getElem_cons_succ, List.getElem_cons_zero, List.setIfInBounds_toArray, List.set_cons_zero, List.set_cons_succ]
          refine wpAnyH_ready (rs := [12]) (by kernel_rfl) (by simp) ?_
          refine AllReadyH.cons rfl (fun KK hK => ?_) AllReadyH.nil
          go_simp
          refine (HHZ.out _ HSD.out).mono ?_
          rintro e w3 ⟨rfl, h3⟩
          have HS3 : Hid (HoO w w3 P 60 L (fun _ => False)) := h3
          clear h3
          refine hK.out _ _ (HXX.out _ HS3.out.below) (fun hHeld => ?_)
          clear hK KK
          try simp only [Act.put, List.getElem_toArray, List.getElem_cons_succ, List.getElem_cons_zero, List.setIfInBounds_toArray, List.set_cons_zero, List.set_cons_succ]
          refine wpAnyH_take (i := 13) (v := ?_) rfl (by kernel_rfl) (by kernel_rfl) (by kernel_rfl) (fun _ _ _ h => h) (Or.inl ⟨by rfl, ?_⟩) (by assumption) ?_
          rotate_left
          · intro W' hSw; obtain ⟨s0, s1, s2, s3, s4, s5, s6⟩ := hSw; go_simp; try with_reducible rfl
          try simp only [Act.put, List.getElem_toArray, List.getElem_cons_succ, List.getElem_cons_zero, List.setIfInBounds_toArray, List.set_cons_zero, List.set_cons_succ]
          refine wpAnyH_done (by kernel_rfl) ?_ _
          refine NoPanic.normal ?_
          clear hHeld
          go_upto_region 11 with fail
          have HS4 : Hid (HoO w w3.drew P 60 L (fun _ => False)) := HDR.out _ _ _ HS3.out
          refine wp_region_noPanic ?_
          refine wp_region_held_drew (S := (fun w' => w'.cell? ⟨b1, o1 + i * 7, none⟩ = some (.int .i64 pc) ∧ w'.cell? ⟨b1, o1 + i * 7 + 1, none⟩ = some (.int .i64 pa) ∧ w'.cell? ⟨b1, o1 + i * 7 + 2, none⟩ = some (.int .i64 ps) ∧ w'.cell? ⟨b1, o1 + i * 7 + 3, none⟩ = some (.bool pi) ∧ w'.cell? ⟨b1, o1 + i * 7 + 4, none⟩ = some (.int .i64 prc) ∧ w'.cell? ⟨b1, o1 + i * 7 + 5, none⟩ = some (.int .i64 pra) ∧ w'.cell? ⟨b1, o1 + i * 7 + 6, none⟩ = some (.int .i32 pch))) (by kernel_rfl) (HXX.out _ HS4.out.below) (fun hHeld => ?_)
          refine wpAnyH_take (i := 0) (v := ?_) rfl (by kernel_rfl) (by kernel_rfl) (by kernel_rfl) (fun _ _ _ h => h) (Or.inl ⟨by rfl, ?_⟩) (by assumption) ?_
          rotate_left
          · intro W' hSw; obtain ⟨s0, s1, s2, s3, s4, s5, s6⟩ := hSw; go_simp; try with_reducible rfl
          try simp only [Act.put, List.getElem_toArray, List.getElem_cons_succ, List.getElem_cons_zero, List.setIfInBounds_toArray, List.set_cons_zero, List.set_cons_succ]
          refine wpAnyH_take (i := 1) (v := ?_) rfl (by kernel_rfl) (by kernel_rfl) (by kernel_rfl) (fun _ _ _ h => h) (Or.inl ⟨by rfl, ?_⟩) (by assumption) ?_
          rotate_left
          · intro W' hSw; obtain ⟨s0, s1, s2, s3, s4, s5, s6⟩ := hSw; go_simp; try with_reducible rfl
          try simp only [Act.put, List.getElem_toArray, List.getElem_cons_succ, List.getElem_cons_zero, List.setIfInBounds_toArray, List.set_cons_zero, List.set_cons_succ]
          refine wpAnyH_take (i := 2) (v := ?_) rfl (by kernel_rfl) (by kernel_rfl) (by kernel_rfl) (fun _ _ _ h => h) (Or.inl ⟨by rfl, ?_⟩) (by assumption) ?_
          rotate_left
          · intro W' hSw; obtain ⟨s0, s1, s2, s3, s4, s5, s6⟩ := hSw; go_simp; try with_reducible rfl
          try simp only [Act.put, List.getElem_toArray, List.getElem_cons_succ, List.getElem_cons_zero, List.setIfInBounds_toArray, List.set_cons_zero, List.set_cons_succ]
          refine wpAnyH_take (i := 3) (v := ?_) rfl (by kernel_rfl) (by kernel_rfl) (by kernel_rfl) (fun _ _ _ h => h) (Or.inl ⟨by rfl, ?_⟩) (by assumption) ?_
          rotate_left
          · intro W' hSw; obtain ⟨s0, s1, s2, s3, s4, s5, s6⟩ := hSw; go_simp; try with_reducible rfl
          try simp only [Act.put, List.getElem_toArray, List.getElem_cons_succ, List.getElem_cons_zero, List.setIfInBounds_toArray, List.set_cons_zero, List.set_cons_succ]
          refine wpAnyH_take (i := 4) (v := ?_) rfl (by kernel_rfl) (by kernel_rfl) (by kernel_rfl) (fun _ _ _ h => h) (Or.inl ⟨by rfl, ?_⟩) (by assumption) ?_
          rotate_left
          · intro W' hSw; obtain ⟨s0, s1, s2, s3, s4, s5, s6⟩ := hSw; go_simp; try with_reducible rfl
          try simp only [Act.put, List.getElem_toArray, List.getElem_cons_succ, List.getElem_cons_zero, List.setIfInBounds_toArray, List.set_cons_zero, List.set_cons_succ]
          refine wpAnyH_ready (rs := [5]) (by kernel_rfl) (by simp) ?_
          refine AllReadyH.cons rfl (fun KK hK => ?_) AllReadyH.nil
          go_simp
          refine (HA1.out _ HS4.out).mono ?_
          rintro e w5 ⟨rfl, h3⟩
          have HS5 : Hid (HoO w w5 P 60 L2 (fun _ => False)) := h3
          clear h3
          refine hK.out _ _ (HXX.out _ HS5.out.below) (fun hHeld => ?_)
          clear hK KK
          try simp only [Act.put, List.getElem_toArray, List.getElem_cons_succ, List.getElem_cons_zero, List.setIfInBounds_toArray, List.set_cons_zero, List.set_cons_succ]
          refine wpAnyH_take (i := 6) (v := ?_) rfl (by kernel_rfl) (by kernel_rfl) (by kernel_rfl) (fun _ _ _ h => h) (Or.inl ⟨by rfl, ?_⟩) (by assumption) ?_
          rotate_left
          · intro W' hSw; obtain ⟨s0, s1, s2, s3, s4, s5, s6⟩ := hSw; go_simp; try with_reducible rfl
          try simp only [Act.put, List.getElem_toArray, List.getElem_cons_succ, List.getElem_cons_zero, List.setIfInBounds_toArray, List.set_cons_zero, List.set_cons_succ]
          refine wpAnyH_take (i := 7) (v := ?_) rfl (by kernel_rfl) (by kernel_rfl) (by kernel_rfl) (fun _ _ _ h => h) (Or.inl ⟨by rfl, ?_⟩) (by assumption) ?_
          rotate_left
          · intro W' hSw; obtain ⟨s0, s1, s2, s3, s4, s5, s6⟩ := hSw; go_simp; try with_reducible rfl
          try simp only [Act.put, List.getElem_toArray, List.getElem_cons_succ, List.getElem_cons_zero, List.setIfInBounds_toArray, List.set_cons_zero, List.set_cons_succ]
          refine wpAnyH_take (i := 8) (v := ?_) rfl (by kernel_rfl) (by kernel_rfl) (by kernel_rfl) (fun _ _ _ h => h) (Or.inl ⟨by rfl, ?_⟩) (by assumption) ?_
          rotate_left
          · intro W' hSw; obtain ⟨s0, s1, s2, s3, s4, s5, s6⟩ := hSw; go_simp; try with_reducible rfl
          try simp only [Act.put, List.getElem_toArray, List.getElem_cons_succ, List.getElem_cons_zero, List.setIfInBounds_toArray, List.set_cons_zero, List.set_cons_succ]
          refine wpAnyH_take (i := 9) (v := ?_) rfl (by kernel_rfl) (by kernel_rfl) (by kernel_rfl) (fun _ _ _ h => h) (Or.inl ⟨by rfl, ?_⟩) (by assumption) ?_
          rotate_left
          · intro W' hSw; obtain ⟨s0, s1, s2, s3, s4, s5, s6⟩ := hSw; go_simp; try with_reducible rfl
          try simp only [Act.put, List.getElem_toArray, List.getElem_cons_succ, List.getElem_cons_zero, List.setIfInBounds_toArray, List.set_cons_zero, List.set_cons_succ]
          refine wpAnyH_take (i := 10) (v := ?_) rfl (by kernel_rfl) (by kernel_rfl) (by kernel_rfl) (fun _ _ _ h => h) (Or.inl ⟨by rfl, ?_⟩) (by assumption) ?_
          rotate_left
          · intro W' hSw; obtain ⟨s0, s1, s2, s3, s4, s5, s6⟩ := hSw; go_simp; try with_reducible rfl
          try simp only [Act.put, List.getElem_toArray, List.getElem_cons_succ, List.getElem_cons_zero, List.setIfInBounds_toArray, List.set_cons_zero, List.set_cons_succ]
          refine wpAnyH_take (i := 11) (v := ?_) rfl (by kernel_rfl) (by kernel_rfl) (by kernel_rfl) (fun _ _ _ h => h) (Or.inl ⟨by rfl, ?_⟩) (by assumption) ?_
          rotate_left
          · intro W' hSw; obtain ⟨s0, s1, s2, s3, s4, s5, s6⟩ := hSw; go_simp; try with_reducible rfl
          try simp only [Act.put, List.getElem_toArray, List.getElem_cons_succ, List.getElem_cons_zero, List.setIfInBounds_toArray, List.set_cons_zero, List.set_cons_succ]
          refine wpAnyH_take (i := 12) (v := ?_) rfl (by kernel_rfl) (by kernel_rfl) (by kernel_rfl) (fun _ _ _ h => h) (Or.inl ⟨by rfl, ?_⟩) (by assumption) ?_
          rotate_left
          · intro W' hSw; obtain ⟨s0, s1, s2, s3, s4, s5, s6⟩ := hSw; go_simp; try with_reducible rfl
          try simp only [Act.put, List.getElem_toArray, List.getElem_cons_succ, List.getElem_cons_zero, List.setIfInBounds_toArray, List.set_cons_zero, List.set_cons_succ]
          refine wpAnyH_ready (rs := [13]) (by kernel_rfl) (by simp) ?_
          refine AllReadyH.cons rfl (fun KK hK => ?_) AllReadyH.nil
          go_simp
          refine (HA2.out _ HS5.out).mono ?_
          rintro e w6 ⟨rfl, h3⟩
          have HS6 : Hid (HoO w w6 P 60 L2 (fun _ => False)) := h3
          clear h3
          refine hK.out _ _ (HXX.out _ HS6.out.below) (fun hHeld => ?_)
          clear hK KK
          try simp only [Act.put, List.getElem_toArray, List.getElem_cons_succ, List.getElem_cons_zero, List.setIfInBounds_toArray, List.set_cons_zero, List.set_cons_succ]
          refine wpAnyH_take (i := 14) (v := ?_) rfl (by kernel_rfl) (by kernel_rfl) (by kernel_rfl) (fun _ _ _ h => h) (Or.inl ⟨by rfl, ?_⟩) (by assumption) ?_
          rotate_left
          · intro W' hSw; obtain ⟨s0, s1, s2, s3, s4, s5, s6⟩ := hSw; go_simp; try with_reducible rfl
          try simp only [Act.put, List.getElem_toArray, List.getElem_cons_succ, List.getElem_cons_zero, List.setIfInBounds_toArray, List.set_cons_zero, List.set_cons_succ]
          refine wpAnyH_take (i := 15) (v := ?_) rfl (by kernel_rfl) (by kernel_rfl) (by kernel_rfl) (fun _ _ _ h => h) (Or.inl ⟨by rfl, ?_⟩) (by assumption) ?_
          rotate_left
          · intro W' hSw; obtain ⟨s0, s1, s2, s3, s4, s5, s6⟩ := hSw; go_simp; try with_reducible rfl
          try simp only [Act.put, List.getElem_toArray, List.getElem_cons_succ, List.getElem_cons_zero, List.setIfInBounds_toArray, List.set_cons_zero, List.set_cons_succ]
          refine wpAnyH_take (i := 16) (v := ?_) rfl (by kernel_rfl) (by kernel_rfl) (by kernel_rfl) (fun _ _ _ h => h) (Or.inl ⟨by rfl, ?_⟩) (by assumption) ?_
          rotate_left
          · intro W' hSw; obtain ⟨s0, s1, s2, s3, s4, s5, s6⟩ := hSw; go_simp; try with_reducible rfl
          try simp only [Act.put, List.getElem_toArray, List.getElem_cons_succ, List.getElem_cons_zero, List.setIfInBounds_toArray, List.set_cons_zero, List.set_cons_succ]
          refine wpAnyH_take (i := 17) (v := ?_) rfl (by kernel_rfl) (by kernel_rfl) (by kernel_rfl) (fun _ _ _ h => h) (Or.inl ⟨by rfl, ?_⟩) (by assumption) ?_
          rotate_left
          · intro W' hSw; obtain ⟨s0, s1, s2, s3, s4, s5, s6⟩ := hSw; go_simp; try with_reducible rfl
          try simp only [Act.put, List.getElem_toArray, List.getElem_cons_succ, List.getElem_cons_zero, List.setIfInBounds_toArray, List.set_cons_zero, List.set_cons_succ]
          refine wpAnyH_take (i := 18) (v := ?_) rfl (by kernel_rfl) (by kernel_rfl) (by kernel_rfl) (fun _ _ _ h => h) (Or.inl ⟨by rfl, ?_⟩) (by assumption) ?_
          rotate_left
          · intro W' hSw; obtain ⟨s0, s1, s2, s3, s4, s5, s6⟩ := hSw; go_simp; try with_reducible rfl
          try simp only [Act.put, List.getElem_toArray, List.getElem_cons_succ, List.getElem_cons_zero, List.setIfInBounds_toArray, List.set_cons_zero, List.set_cons_succ]
          refine wpAnyH_take (i := 19) (v := ?_) rfl (by kernel_rfl) (by kernel_rfl) (by kernel_rfl) (fun _ _ _ h => h) (Or.inl ⟨by rfl, ?_⟩) (by assumption) ?_
          rotate_left
          · intro W' hSw; obtain ⟨s0, s1, s2, s3, s4, s5, s6⟩ := hSw; go_simp; try with_reducible rfl
          try simp only [Act.put, List.getElem_toArray, List.getElem_cons_succ, List.getElem_cons_zero, List.setIfInBounds_toArray, List.set_cons_zero, List.set_cons_succ]
          refine wpAnyH_take (i := 20) (v := ?_) rfl (by kernel_rfl) (by kernel_rfl) (by kernel_rfl) (fun _ _ _ h => h) (Or.inl ⟨by rfl, ?_⟩) (by assumption) ?_
          rotate_left
          · intro W' hSw; obtain ⟨s0, s1, s2, s3, s4, s5, s6⟩ := hSw; go_simp; try with_reducible rfl
          try simp only [Act.put, List.getElem_toArray, List.getElem_cons_succ, List.getElem_cons_zero, List.setIfInBounds_toArray, List.set_cons_zero, List.set_cons_succ]
          refine wpAnyH_take (i := 21) (v := ?_) rfl (by kernel_rfl) (by kernel_rfl) (by kernel_rfl) (fun _ _ _ h => h) (Or.inl ⟨by rfl, ?_⟩) (by assumption) ?_
          rotate_left
          · intro W' hSw; obtain ⟨s0, s1, s2, s3, s4, s5, s6⟩ := hSw; go_simp; try with_reducible rfl
          try simp only [Act.put, List.getElem_toArray, List.getElem_cons_succ, List.getElem_cons_zero, List.setIfInBounds_toArray, List.set_cons_zero, List.set_cons_succ]
          refine wpAnyH_take (i := 22) (v := ?_) rfl (by kernel_rfl) (by kernel_rfl) (by kernel_rfl) (fun _ _ _ h => h) (Or.inl ⟨by rfl, ?_⟩) (by assumption) ?_
          rotate_left
          · intro W' hSw; obtain ⟨s0, s1, s2, s3, s4, s5, s6⟩ := hSw; go_simp; try with_reducible rfl
          try simp only [Act.put, List.getElem_toArray, List.getElem_cons_succ, List.getElem_cons_zero, List.setIfInBounds_toArray, List.set_cons_zero, List.set_cons_succ]
          refine wpAnyH_take (i := 23) (v := ?_) rfl (by kernel_rfl) (by kernel_rfl) (by kernel_rfl) (fun _ _ _ h => h) (Or.inl ⟨by rfl, ?_⟩) (by assumption) ?_
          rotate_left
          · intro W' hSw; obtain ⟨s0, s1, s2, s3, s4, s5, s6⟩ := hSw; go_simp; try with_reducible rfl
          try simp only [Act.put, List.getElem_toArray, List.getElem_cons_succ, List.getElem_cons_zero, List.setIfInBounds_toArray, List.set_cons_zero, List.set_cons_succ]
          refine wpAnyH_take (i := 24) (v := ?_) rfl (by kernel_rfl) (by kernel_rfl) (by kernel_rfl) (fun _ _ _ h => h) (Or.inl ⟨by rfl, ?_⟩) (by assumption) ?_
          rotate_left
          · intro W' hSw; obtain ⟨s0, s1, s2, s3, s4, s5, s6⟩ := hSw; go_simp; try with_reducible rfl
          try simp only [Act.put, List.getElem_toArray, List.getElem_cons_succ, List.getElem_cons_zero, List.setIfInBounds_toArray, List.set_cons_zero, List.set_cons_succ]
          refine wpAnyH_take (i := 25) (v := ?_) rfl (by kernel_rfl) (by kernel_rfl) (by kernel_rfl) (fun _ _ _ h => h) (Or.inl ⟨by rfl, ?_⟩) (by assumption) ?_
          rotate_left
          · intro W' hSw; obtain ⟨s0, s1, s2, s3, s4, s5, s6⟩ := hSw; go_simp; try with_reducible rfl
          try simp only [Act.put, List.getElem_toArray, List.getElem_cons_succ, List.getElem_cons_zero, List.setIfInBounds_toArray, List.set_cons_zero, List.set_cons_succ]
          refine wpAnyH_take (i := 26) (v := ?_) rfl (by kernel_rfl) (by kernel_rfl) (by kernel_rfl) (fun _ _ _ h => h) (Or.inl ⟨by rfl, ?_⟩) (by assumption) ?_
          rotate_left
          · intro W' hSw; obtain ⟨s0, s1, s2, s3, s4, s5, s6⟩ := hSw; go_simp; try with_reducible rfl
          try simp only [Act.put, List.getElem_toArray, List.getElem_cons_succ, List.getElem_cons_zero, List.setIfInBounds_toArray, List.set_cons_zero, List.set_cons_succ]
          refine wpAnyH_take (i := 27) (v := ?_) rfl (by kernel_rfl) (by kernel_rfl) (by kernel_rfl) (fun _ _ _ h => h) (Or.inl ⟨by rfl, ?_⟩) (by assumption) ?_
          rotate_left
          · intro W' hSw; obtain ⟨s0, s1, s2, s3, s4, s5, s6⟩ := hSw; go_simp; try with_reducible rfl
          try simp only [Act.put, List.getElem_toArray, List.getElem_cons_succ, List.getElem_cons_zero, List.setIfInBounds_toArray, List.set_cons_zero, List.set_cons_succ]
          refine wpAnyH_take (i := 28) (v := ?_) rfl (by kernel_rfl) (by kernel_rfl) (by kernel_rfl) (fun _ _ _ h => h) (Or.inl ⟨by rfl, ?_⟩) (by assumption) ?_
          rotate_left
          · intro W' hSw; obtain ⟨s0, s1, s2, s3, s4, s5, s6⟩ := hSw; go_simp; try with_reducible rfl
          try simp only [Act.put, List.getElem_toArray, List.getElem_cons_succ, List.getElem_cons_zero, List.setIfInBounds_toArray, List.set_cons_zero, List.set_cons_succ]
          refine wpAnyH_ready (rs := [29]) (by kernel_rfl) (by simp) ?_
          refine AllReadyH.cons rfl (fun KK hK => ?_) AllReadyH.nil
          go_simp
          refine (HH2.out _ HS6.out).mono ?_
          rintro e w7 ⟨rfl, h3⟩
          have HS7 : Hid (HoO w w7 P 60 L2 (fun _ => False)) := h3
          clear h3
          refine hK.out _ _ (HXX.out _ HS7.out.below) (fun hHeld => ?_)
          clear hK KK
          try simp only [Act.put, List.getElem_toArray, List.getElem_cons_succ, List.getElem_cons_zero, List.setIfInBounds_toArray, List.set_cons_zero, List.set_cons_succ]
          refine wpAnyH_take (i := 30) (v := ?_) rfl (by kernel_rfl) (by kernel_rfl) (by kernel_rfl) (fun _ _ _ h => h) (Or.inl ⟨by rfl, ?_⟩) (by assumption) ?_
          rotate_left
          · intro W' hSw; obtain ⟨s0, s1, s2, s3, s4, s5, s6⟩ := hSw; go_simp; try with_reducible rfl
          try simp only [Act.put, List.getElem_toArray, List.getElem_cons_succ, List.getElem_cons_zero, List.setIfInBounds_toArray, List.set_cons_zero, List.set_cons_succ]
          refine wpAnyH_take (i := 31) (v := ?_) rfl (by kernel_rfl) (by kernel_rfl) (by kernel_rfl) (fun _ _ _ h => h) (Or.inl ⟨by rfl, ?_⟩) (by assumption) ?_
          rotate_left
          · intro W' hSw; obtain ⟨s0, s1, s2, s3, s4, s5, s6⟩ := hSw; go_simp; try with_reducible rfl
          try simp only [Act.put, List.getElem_toArray, List.getElem_cons_succ, List.getElem_cons_zero, List.setIfInBounds_toArray, List.set_cons_zero, List.set_cons_succ]
          refine wpAnyH_done (by kernel_rfl) ?_ _
          refine NoPanic.normal ?_
          clear hHeld
          go_wp2
          go_roundw
          case rel => exact ⟨i + 1, u, by go_num, rfl, by omega, by omega, by rw [HNX.out, HUL.out], by rw [HNX.out]; exact HS7.out⟩
          case measure => simp [RowKit.intOf]; omega
    · have hcs : ((¬ i < len) ∧ decide ((i : Int) < (len : Int)) = false) ∨ (i < len ∧ decide ((i : Int) < (len : Int)) = true ∧ (¬ i < 60) ∧ decide ((i : Int) < 60) = false) := by
        rcases Nat.lt_or_ge i len with q | q
        · exact .inr ⟨q, by simpa using q, by omega, by simp; omega⟩
        · exact .inl ⟨by omega, by simp; omega⟩
      obtain ⟨L, hL⟩ : ∃ L, L = adsK 60 (xs.take i) := ⟨_, rfl⟩
      have hA : AscK L := by rw [hL]; exact adsK_asc _ _
      have HMEM : Hid (∀ x ∈ L, anyK xs i x) := by
        have : ∀ x ∈ L, anyK xs i x := by rw [hL]; exact adsK_mem 60 _
        exact this
      have HSL : Hid (HoO w wr P 60 L (fun _ => False) ∧ L.length = u) := by
        have h1 := HS.out
        have h2 := HU.out
        rw [← hL] at h1 h2
        exact ⟨h1, h2.symm⟩
      have HASC : Hid (∀ j, 0 < j → j < u → ltK (lsK L j) (L.getD j op0)) := fun j h1 h2 => by
        obtain ⟨j, rfl⟩ : ∃ q, j = q + 1 := ⟨j - 1, by omega⟩
        exact asc_at hA j (j + 1) (by omega) (by rw [HSL.out.2]; exact h2)
      have HRM : Hid (∀ j, j < u → L.drop j = L.getD j op0 :: L.drop (j + 1) ∧ remK (L.drop j) (L.getD j op0).a (L.getD j op0).s = L.drop (j + 1) ∧ anyK xs i (L.getD j op0)) := fun j hj => by
        have hj2 : j < L.length := by rw [HSL.out.2]; exact hj
        exact ⟨drop_head L j hj2, remK_drop hA j hj2, HMEM.out _ (op_getD L j hj2)⟩
      have HDE : Hid (L.drop u = []) := by
        have : L.drop u = [] := List.drop_eq_nil_of_le (by rw [HSL.out.2]; omega)
        exact this
      clear hL hA HS HU HMEM HAD HHS
      have HLE1 : Hid (Calls Try.prog 25 #[.pointer (some ⟨P, 0, none⟩)] wr fun e w' => e = .returned (.int .i64 (u : Int)) ∧ w' = wr) := by
        have := HLE.out wr L _ HSL.out.1
        rw [HSL.out.2] at this
        exact this
      have HRO1 : Hid (Calls Try.prog 26 #[.pointer (some ⟨P, 0, none⟩)] wr fun e w' => e = .returned (.int .i64 (60 - (u : Int))) ∧ w' = wr.drew) := by
        have := HRO.out wr L _ HSL.out.1
        rw [HSL.out.2] at this
        exact this
      have hs1 : IntKind.i64.wrap (60 - (u : Int)) = 60 - (u : Int) := by rw [IntKind.wrap_i64]; omega
      have hs2 : wrap64 (60 - (u : Int)) = 60 - (u : Int) := by unfold wrap64; omega
      have HLT : Hid (¬(i < len ∧ i < 60)) := hlt
      clear hlt
      rcases hcs with ⟨hn1, hd1⟩ | ⟨hn1, hd1, hn2, hd2⟩
      all_goals
        go_upto_region 15 with (first
          | (go_at_call 25; refine HLE1.out.mono ?_; rintro e w8 ⟨rfl, h1⟩; have h1 := h1.symm; subst h1)
          | (go_at_call 26; refine HRO1.out.mono ?_; rintro e w8 ⟨rfl, h1⟩; have h1 := h1.symm; subst h1))
        clear HLE1 HRO1 hs1 hs2
        go_upto_region 16 with fail
        obtain ⟨W0, hW0⟩ : ∃ W0, W0 = (wr.alloc (.cells #[.int .i64 0, .int .i64 0, .int .i64 0, .bool false, .int .i64 0, .int .i64 0, .int .i32 0] 31)).drew := ⟨_, rfl⟩
        obtain ⟨LB, hLB⟩ : ∃ LB, LB = wr.heap.size := ⟨_, rfl⟩
        have hb0 : Below wr.heap.size wr W0 := by rw [hW0]; exact ((Below.refl _ wr).alloc (Nat.le_refl _) _).drew
        have hbx0 : W0.heap[LB]? = some (bxP op0) := by rw [hW0, hLB]; exact heap_alloc_new wr _
        have HLB : Hid (w.heap.size ≤ LB) := by rw [hLB]; exact HSL.out.1.below.size
        have HS2 : Hid (HoO w W0 P 60 (L.drop 0) (fun k => k = LB) ∧ W0.heap[LB]? = some (bxP (lsK L 0))) := ⟨HSL.out.1.more hb0 (fun k hk => .inr (by rw [hk]; have := (Array.getElem?_eq_some_iff.1 hbx0).1; omega)), hbx0⟩
        rw [← hLB, ← hW0]
        clear hLB hW0 hb0 hbx0
        go_upto_region 17 with fail
        go_loopw [8] (fun x8 wr => ∃ j : Nat, x8 = .int .i64 (j : Int) ∧ j ≤ u ∧ HoO w wr P 60 (L.drop j) (fun k => k = LB) ∧ wr.heap[LB]? = some (bxP (lsK L j))) (fun x8 _ => 60 - (RowKit.intOf x8).toNat)
        case atStart => exact ⟨0, rfl, by omega, HS2.out.1, HS2.out.2⟩
        case round =>
          obtain ⟨j, h8, hju, hs, hbl⟩ := hrel
          subst h8
          have HSJ : Hid (HoO w wr P 60 (L.drop j) (fun k => k = LB) ∧ wr.heap[LB]? = some (bxP (lsK L j))) := ⟨hs, hbl⟩
          clear hs hbl HS2
          by_cases hjt : j < u
          · have hjd : decide ((j : Int) < (u : Int)) = true := by simpa using hjt
            obtain ⟨p, hp⟩ : ∃ p, p = L.getD j op0 := ⟨_, rfl⟩
            obtain ⟨q, hq⟩ : ∃ q, q = lsK L j := ⟨_, rfl⟩
            have hrm := HRM.out j hjt
            rw [← hp] at hrm
            have HAN : Hid (anyK xs i p) := hrm.2.2
            have HORD : Hid (0 < j → ltK q p) := fun h => by rw [hq, hp]; exact HASC.out j h hjt
            have HNXT : Hid (p = lsK L (j + 1)) := hp
            have HRDY : Hid (Calls Try.prog 13 #[.pointer (some ⟨P, 0, none⟩), .func (.func 27) #[] #[]] wr fun e w' => e = .returned (.tuple #[p.val, .bool true]) ∧ HoO w w' P 60 (L.drop (j + 1)) (fun k => k = LB) ∧ w'.heap[LB]? = some (bxP q)) := (h_ready HSJ.out.1 _ _ _ (ask_all wr)).mono (by
              rintro e w' (⟨o, ho, rfl, z⟩ | ⟨hn, _⟩)
              · rw [hrm.1] at ho
                obtain rfl : p = o := by simpa using ho
                rw [hrm.2.1] at z
                exact ⟨rfl, z.1, by rw [hq]; exact z.cell rfl HSJ.out.2⟩
              · rw [hrm.1] at hn; simp at hn)
            have HEQP : Hid (p = p) := rfl
            clear hq hrm HSJ hp
            obtain ⟨pv, hpv⟩ : ∃ pv, pv = p := ⟨_, rfl⟩
            rw [← hpv] at HAN HNXT
            have HPV : Hid (pv = p) := hpv
            clear hpv HEQP
            obtain ⟨pc, pa, ps, pi, prc, pra, pch⟩ := p
            simp only [Opn.val] at HRDY
            go_upto_region 20 with (go_at_call 13; refine HRDY.out.mono ?_; rintro e w4 ⟨rfl, h1, h2⟩; have HS4 : Hid (HoO w w4 P 60 (L.drop (j + 1)) (fun k => k = LB) ∧ w4.heap[LB]? = some (bxP q)) := ⟨h1, h2⟩; clear h1 h2)
            obtain ⟨W5, hW5⟩ : ∃ W5, W5 = w4.alloc (.cells #[.int .i64 pc, .int .i64 pa, .int .i64 ps, .bool pi, .int .i64 prc, .int .i64 pra, .int .i32 pch] 31) := ⟨_, rfl⟩
            obtain ⟨XB, hXB⟩ : ∃ XB, XB = w4.heap.size := ⟨_, rfl⟩
            have hb5 : Below w4.heap.size w4 W5 := by rw [hW5]; exact (Below.refl _ w4).alloc (Nat.le_refl _) _
            have HS5 : Hid (HoO w W5 P 60 (L.drop (j + 1)) (fun k => k = LB) ∧ W5.heap[LB]? = some (bxP q) ∧ W5.heap[XB]? = some (bxP ⟨pc, pa, ps, pi, prc, pra, pch⟩) ∧ XB ≠ LB) := ⟨HS4.out.1.later hb5, bel_heap hb5 HS4.out.2, by rw [hW5, hXB]; exact heap_alloc_new w4 _, by rw [hXB]; have := (Array.getElem?_eq_some_iff.1 HS4.out.2).1; omega⟩
            rw [← hXB, ← hW5]
            clear hXB hW5 hb5 HS4 HRDY
            have HFAC : Hid (∀ V, Below W5.heap.size W5 V → (V.cell? ⟨XB, 0, none⟩ = some (.int .i64 pc) ∧ V.cell? ⟨XB, 1, none⟩ = some (.int .i64 pa) ∧ V.cell? ⟨XB, 2, none⟩ = some (.int .i64 ps) ∧ V.cell? ⟨XB, 3, none⟩ = some (.bool pi) ∧ V.cell? ⟨XB, 4, none⟩ = some (.int .i64 prc) ∧ V.cell? ⟨XB, 5, none⟩ = some (.int .i64 pra) ∧ V.cell? ⟨XB, 6, none⟩ = some (.int .i32 pch)) ∧ RdP V a len xs ∧ HoO w V P 60 (L.drop (j + 1)) (fun k => k = LB) ∧ V.heap[LB]? = some (bxP q)) := fun V hV => by
              have h5 := HS5.out
              exact ⟨opAt_box (o := ⟨pc, pa, ps, pi, prc, pra, pch⟩) (bel_heap hV h5.2.2.1), HX.out V (h5.1.below.trans (hV.mono h5.1.below.size)), h5.1.later hV, bel_heap hV h5.2.1⟩
            have HB5 : Hid (Below W5.heap.size W5 W5) := Below.refl _ _
            go_upto_region 22 with fail
            go_loopw [11, 12] (fun x11 x12 wr => ∃ (k : Nat) (z : Bool), x12 = .int .i64 (k : Int) ∧ x11 = .bool z ∧ k ≤ i ∧ (z = true ↔ anyK xs k pv) ∧ Below W5.heap.size W5 wr) (fun _ x12 _ => 60 - (RowKit.intOf x12).toNat)
            case atStart => exact ⟨0, false, rfl, rfl, by omega, by simp [anyK], HB5.out⟩
            case round =>
              obtain ⟨k, z, h12, h11, hki, hz, hbq⟩ := hrel
              subst h12 h11
              have HZ : Hid (z = true ↔ anyK xs k pv) := hz
              have HBQ : Hid (Below W5.heap.size W5 wr) := hbq
              clear hz hbq HB5
              by_cases hkt : k < i
              · have hkl : k < len := by omega
                have hk60 : k < 60 := by omega
                have hkd1 : decide ((k : Int) < (len : Int)) = true := by simpa using hkl
                have hkd2 : decide ((k : Int) < 60) = true := decide_eq_true (by omega)
                obtain ⟨⟨x0, x1, x2, x3, x4, x5, x6⟩, hrx, -, -⟩ := HFAC.out wr HBQ.out
                obtain ⟨b1, o1, hab, c0, c1, c2, c3, c4, c5, c6⟩ := hrx.at k hkl
                subst hab
                have hsn := anyK_snoc xs k pv (by rw [HLX.out]; exact hkl)
                obtain ⟨E, hE⟩ : ∃ E, E = xs.getD k op0 := ⟨_, rfl⟩
                rw [← hE] at c0 c1 c2 c3 c4 c5 c6 hsn
                clear hE
                have hk0 : (0 : Int) ≤ (k : Int) := by omega
                have hk1 : (k : Int) < (len : Int) := by omega
                cases z
                · by_cases hee : E = ⟨pc, pa, ps, pi, prc, pra, pch⟩
                  · have hqq := eql_opK E ⟨pc, pa, ps, pi, prc, pra, pch⟩ true (by simp [hee])
                    have HZ2 : Hid (true = true ↔ anyK xs (k + 1) pv) := by
                      show true = true ↔ anyK xs (k + 1) pv
                      rw [hsn, HPV.out]
                      exact ⟨fun _ => .inr hee, fun _ => rfl⟩
                    clear hsn hee hrx HFAC HX
                    simp only at hqq
                    go_upto_region 24 with fail
                    go_quiet (fail)
                    go_wp2
                    go_roundw
                    case rel => exact ⟨k + 1, true, by go_num, rfl, by omega, HZ2.out, bel_drewK HBQ.out _⟩
                    case measure => simp [RowKit.intOf]; omega
                  · have hqq := eql_opK E ⟨pc, pa, ps, pi, prc, pra, pch⟩ false (by simp [hee])
                    have HZ2 : Hid (false = true ↔ anyK xs (k + 1) pv) := by
                      show false = true ↔ anyK xs (k + 1) pv
                      rw [hsn]
                      constructor
                      · intro h; cases h
                      · rintro (h | h)
                        · exact HZ.out.2 h
                        · exact absurd (by rw [← HPV.out]; exact h) hee
                    clear hsn hee hrx HFAC HX
                    simp only at hqq
                    go_upto_region 24 with fail
                    go_quiet (fail)
                    go_wp2
                    go_roundw
                    case rel => exact ⟨k + 1, false, by go_num, rfl, by omega, HZ2.out, bel_drewK HBQ.out _⟩
                    case measure => simp [RowKit.intOf]; omega
                · have HZ2 : Hid (true = true ↔ anyK xs (k + 1) pv) := by
                    show true = true ↔ anyK xs (k + 1) pv
                    rw [hsn]
                    exact ⟨fun _ => .inl (HZ.out.1 rfl), fun _ => rfl⟩
                  clear hsn hrx HFAC HX
                  go_upto_region 24 with fail
                  go_quiet (fail)
                  go_wp2
                  go_roundw
                  case rel => exact ⟨k + 1, true, by go_num, rfl, by omega, HZ2.out, bel_drewK HBQ.out _⟩
                  case measure => simp [RowKit.intOf]; omega
              · obtain rfl : k = i := by omega
                obtain rfl : z = true := HZ.out.2 HAN.out
                obtain ⟨⟨x0, x1, x2, x3, x4, x5, x6⟩, -, hso, hlb⟩ := HFAC.out wr HBQ.out
                have hxb : wr.heap[XB]? = some (bxP ⟨pc, pa, ps, pi, prc, pra, pch⟩) := bel_heap HBQ.out HS5.out.2.2.1
                have HEND : Hid (HoO w (wr.setCells LB 0 (encP ⟨pc, pa, ps, pi, prc, pra, pch⟩)) P 60 (L.drop (j + 1)) (fun k => k = LB) ∧ (wr.setCells LB 0 (encP ⟨pc, pa, ps, pi, prc, pra, pch⟩)).heap[LB]? = some (bxP (lsK L (j + 1)))) := by
                  refine ⟨hso.chg (cg_cells wr LB 0 _) (fun _ h => h) (fun k h => by have := HLB.out; omega), ?_⟩
                  rw [← HNXT.out, HPV.out]
                  exact set_boxK wr LB _ _ hlb
                have zf : ∀ t, wr.frozen? ⟨LB, t, none⟩ = false := fun t => Lib.frozen_of_heap hlb _
                have zf0 := zf 0
                have zf1 := zf 1
                have zf2 := zf 2
                have zf3 := zf 3
                have zf4 := zf 4
                have zf5 := zf 5
                have zf6 := zf 6
                obtain ⟨y0, y1, y2, y3, y4, y5, y6⟩ := opAt_box hlb
                clear zf hlb hxb hso HFAC HZ HX HPV HNXT HAN
                have hj0 : j = 0 ∨ 0 < j := by omega
                rcases hj0 with rfl | hj0
                · have hg : decide ((0 : Int) < ((0 : Nat) : Int)) = false := by decide
                  go_wp2
                  go_roundw
                  case rel => exact ⟨1, by go_num, by omega, HEND.out.1, HEND.out.2⟩
                  case measure => simp [RowKit.intOf]
                · have hg : decide ((0 : Int) < (j : Int)) = true := by simpa using hj0
                  have ho := HORD.out hj0
                  have HJ0 : Hid (0 < j) := hj0
                  clear hj0 HORD
                  obtain ⟨qc, qa, qs, qi, qrc, qra, qch⟩ := q
                  simp only at y0 y1 y2 y3 y4 y5 y6
                  simp only [ltK] at ho
                  rcases ho with ho | ⟨ho, ho2⟩
                  · have e1 : decide (pa < qa) = false := by simp; omega
                    have e2 : (pa == qa) = false := by simp; omega
                    have e3 : decide (pa = qa) = false := by simp; omega
                    clear ho
                    go_wp2
                    go_roundw
                    case rel => exact ⟨j + 1, by go_num, by omega, HEND.out.1, HEND.out.2⟩
                    case measure => simp [RowKit.intOf]; omega
                  · subst ho
                    have e1 : decide (qa < qa) = false := by simp
                    have e2 : decide (ps ≤ qs) = false := by simp; omega
                    clear ho2
                    go_wp2
                    go_roundw
                    case rel => exact ⟨j + 1, by go_num, by omega, HEND.out.1, HEND.out.2⟩
                    case measure => simp [RowKit.intOf]; omega
          · obtain rfl : j = u := by omega
            have hjd : decide ((j : Int) < (j : Int)) = false := by simp
            have HRD0 : Hid (Calls Try.prog 13 #[.pointer (some ⟨P, 0, none⟩), .func (.func 27) #[] #[]] wr fun e w' => e = .returned (.tuple #[.agg #[.int .i64 0, .int .i64 0, .int .i64 0, .bool false, .int .i64 0, .int .i64 0, .int .i32 0], .bool false]) ∧ HoO w w' P 60 [] (fun k => k = LB)) := (h_ready HSJ.out.1 _ _ _ (ask_all wr)).mono (by
              have hde := HDE.out
              have hsj := HSJ.out.1
              rw [hde] at hsj ⊢
              rintro e w' (⟨o, ho, _⟩ | ⟨_, rfl, z⟩)
              · cases ho
              · exact ⟨rfl, hsj.later z⟩)
            clear HSJ HRM HASC HDE HX
            go_upto_region 29 with (go_at_call 13; refine HRD0.out.mono ?_; rintro e w4 ⟨rfl, h1⟩; have HS4 : Hid (HoO w w4 P 60 [] (fun k => k = LB)) := h1; clear h1)
            have HS5 : Hid (∀ o : Obj, HoO w (w4.alloc o) P 60 [] (fun k => k = LB)) := fun o => HS4.out.later ((Below.refl _ _).alloc (Nat.le_refl _) _)
            clear HS4 HRD0
            go_wp2_with (go_at_call 25; refine (HLE.out _ _ _ (HS5.out _)).mono ?_; rintro e w8 ⟨rfl, h1⟩; have h1 := h1.symm; subst h1)
            go_ret
            exact ⟨rfl, (HS5.out _).below⟩
end Go.Proofs.Ytcmgmoacpkikdaa
