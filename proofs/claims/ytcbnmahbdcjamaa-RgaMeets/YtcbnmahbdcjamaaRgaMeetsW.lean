/- The walk of RgaMeets: whoever knows the same operations has the same text. -/
import Derived.Test.YtcbnmahbdcjamaaRgMt
import Derived.Test.YtcbnmahbdcjamaaRgOi
import Derived.Test.YtcbnmahbdcjamaaRiX
import Derived.Deep.CutRange
import Derived.Deep.RegionLaw
import Derived.Deep.MidRow
namespace Go.Proofs.Ytcbnmahbdcjamaa
open Go.RowKit Go.Shelf Go.Maps Go.Sort
set_option linter.unusedVariables false
set_option linter.unusedSimpArgs false

/-- Behind some rounds. -/
def MtJ (O L B : List Opn) (r : Nat) : Prop := (r ≤ O.length ∧ MtI O L B r 0) ∨ (r = O.length + 1 ∧ Rv B ∧ ∀ o, o ∈ O ↔ o ∈ B)
theorem mtj_next {O L B : List Opn} {r : Nat} (hL : ∀ o, o ∈ L ↔ o ∈ O) (h : MtI O L B r L.length) (hr : r ≤ O.length) : MtJ O L B (r + 1) := by
  by_cases hlt : r < O.length
  · exact .inl ⟨hlt, mt_next hL h hlt⟩
  · obtain rfl : r = O.length := by omega
    exact .inr ⟨rfl, h.1, mt_end h⟩
theorem infoPM : (Try.prog.info? 34).map (fun i => (i.zero, i.size, i.bytes)) = some (some op0.val, 7, 56) := by kernel_rfl
theorem partsM {i : Option TypeInfo} {z : Value} {s b : Nat} (h : i.map (fun i => (i.zero, i.size, i.bytes)) = some (some z, s, b)) : ∃ j, i = some j ∧ j.zero = some z ∧ j.size = s ∧ j.bytes = b := by
  cases i with
  | none => cases h
  | some j => simp at h; exact ⟨j, rfl, h.1, h.2.1, h.2.2⟩
set_option maxHeartbeats 16000000 in
set_option maxRecDepth 100000 in
theorem rgaMeets_walk (xs : List Opn) (a : Option Addr) (len cap : Nat) (ys : List Int) (ao : Option Addr) (lo co : Nat) (w : World) (hrd : RdP w a len xs) (hro : RdI w ao lo ys) :
    Calls Try.prog 3 #[.slice a len cap, .slice ao lo co] w fun e w' => e = .returned (.bool true) ∧ Below w.heap.size w w' := by
  obtain ⟨j0, ji, jz0, jz1, jz2⟩ := partsM infoPM
  have HX : Hid (∀ w', Below w.heap.size w w' → RdP w' a len xs) := fun w' h => hrd.later h
  have HY : Hid (∀ w', Below w.heap.size w w' → RdI w' ao lo ys) := fun w' h => hro.later h
  have HSH : Hid (Calls Try.prog 9 #[] w fun e w' => e = .returned (.bool true) ∧ Below w.heap.size w w') := shown14_any w
  have HNW : Hid (∀ w1, Below w.heap.size w w1 → Calls Try.prog 10 #[] w1 fun e w' => ∃ P, e = .returned (.pointer (some ⟨P, 0, none⟩)) ∧ RgS w w' P [] nob) := fun w1 hb => (s_new14 hb nob (fun k h => h.elim)).mono fun e w' q => by obtain ⟨P, h1, h2, _⟩ := q; exact ⟨P, h1, h2⟩
  have HN2 : Hid (∀ w1 P, RgS w w1 P [] nob → Calls Try.prog 10 #[] w1 fun e w' => ∃ Q, e = .returned (.pointer (some ⟨Q, 0, none⟩)) ∧ TtS w w' P [] Q [] nob) := fun w1 P h => tt_new h
  obtain ⟨L, hL⟩ : ∃ L, L = rtF xs 30 := ⟨_, rfl⟩
  have hLv : Rv L := by rw [hL]; exact (rtF_rv xs 30).1
  have hLl : L.length ≤ 30 := by rw [hL]; have := (rtF_rv xs 30).2; rw [List.length_take] at this; omega
  obtain ⟨n, hnn⟩ : ∃ n, n = L.length := ⟨_, rfl⟩
  have HRI : Hid (∀ P Q w2, TtS w w2 P [] Q [] nob → Calls Try.prog 11 #[.slice a len cap, .int .i64 30] w2 fun e w' => ∃ b c, e = .returned (.slice b n c) ∧ TtR w w' P [] Q [] L b n ∧ (b = none → c = 0)) := fun P Q w2 hs => (right_rf (HX.out w2 hs.below) 30 (by omega)).mono fun e w' q => by
    obtain ⟨b, c, rfl, q1, q4, q2, q3⟩ := q
    have e30 : (30 : Int).toNat = 30 := rfl
    rw [e30, ← hL, ← hnn] at q1
    rw [e30, ← hL, ← hnn]
    exact ⟨b, c, rfl, ttR_new hs q2 q1 q3, q4⟩
  have HN : Hid (n = L.length) := hnn
  have hn30 : n ≤ 30 := by rw [hnn]; exact hLl
  have HLV : Hid (Rv L) := hLv
  have HP1 : Hid (∀ P Q b W i, i < n → TtR w W P (L.take i) Q [] L b n → Calls Try.prog 12 #[.pointer (some ⟨P, 0, none⟩), .agg #[.int .i64 (L.getD i op0).c, .int .i64 (L.getD i op0).a, .int .i64 (L.getD i op0).s, .bool (L.getD i op0).ins, .int .i64 (L.getD i op0).rc, .int .i64 (L.getD i op0).ra, .int .i32 (L.getD i op0).ch]] W fun e w' => e = .returned (.tuple #[.bool true, .int .i64 0]) ∧ TtR w w' P (L.take (i + 1)) Q [] L b n) := fun P Q b W i hi h => (ttR_put1 h (L.getD i op0) (by rw [List.length_take]; omega)).mono fun e w' q => by
    obtain ⟨rfl, q1⟩ := q
    rw [rv_takeA hLv i (by omega)] at q1
    have he : L = L.take i ++ L.getD i op0 :: L.drop (i + 1) := by
      have h1 := (List.take_append_drop (i + 1) L).symm
      rw [take_nextR L i (by omega), List.append_assoc] at h1
      exact h1
    have ht := (put_took (hLv _ _ _ he)).2
    rw [ht]
    exact ⟨rfl, q1⟩
  have HTK : Hid (∀ P Q b W, TtR w W P (L.take n) Q [] L b n → TtR w W P L Q [] L b n) := fun P Q b W h => by rw [List.take_of_length_le (by omega)] at h; exact h
  have HP2 : Hid (∀ P Q b cb W Lf B (o : Opn), B.length ≤ 1000 → MtS w W P L Q B b n cb Lf → Calls Try.prog 12 #[.pointer (some ⟨Q, 0, none⟩), .agg #[.int .i64 o.c, .int .i64 o.a, .int .i64 o.s, .bool o.ins, .int .i64 o.rc, .int .i64 o.ra, .int .i32 o.ch]] W fun e w' => e = .returned (.tuple #[.bool (putA B o).1, .int .i64 (putA B o).2]) ∧ MtS w w' P L Q (putO B o) b n cb Lf) := fun P Q b cb W Lf B o hB h => mts_put2 h o (by omega)
  obtain ⟨V, hV⟩ : ∃ V, V = visC (els L) := ⟨_, rfl⟩
  obtain ⟨k, hk⟩ : ∃ k, k = V.length := ⟨_, rfl⟩
  obtain ⟨I, hI⟩ : ∃ I, I = visI (els L) := ⟨_, rfl⟩
  obtain ⟨ki, hki⟩ : ∃ ki, ki = I.length := ⟨_, rfl⟩
  obtain ⟨A, hA⟩ : ∃ A, A = idsOf (els L) := ⟨_, rfl⟩
  obtain ⟨ka, hka⟩ : ∃ ka, ka = A.length := ⟨_, rfl⟩
  obtain ⟨E, hE⟩ : ∃ E, E = vecO L := ⟨_, rfl⟩
  obtain ⟨ke, hke⟩ : ∃ ke, ke = E.length := ⟨_, rfl⟩
  have hkl : k ≤ 100 ∧ ki ≤ 100 ∧ ka ≤ 100 ∧ ke ≤ 100 := by
    have h1 := (vis_len (els L)).2.1
    have h2 := seqE_len L
    have h3 := visI_len L
    have h4 := ids_len L
    have h5 := vecO_len L
    rw [els_len] at h1
    rw [hk, hki, hka, hke, hV, hI, hA, hE]
    omega
  have HVS : Hid (∀ P O W, RgS w W P O nob → Rv O → (∀ o, o ∈ L ↔ o ∈ O) → O.length ≤ 1000 → Calls Try.prog 14 #[.pointer (some ⟨P, 0, none⟩)] W fun e w' => ∃ v c, e = .returned (.slice v k c) ∧ RdC w' v k V ∧ Below W.heap.size W w') := fun P O W h hO he hl => (s_vis h (by omega)).mono fun e w' q => by
    obtain ⟨v, rfl, q1, q2⟩ := q
    rw [← els_ext hLv hO he, ← hV, ← hk] at q1
    obtain ⟨v, c, rfl, _, _, q4⟩ := rdC_own q1
    exact ⟨v, c, rfl, q4, q2⟩
  have HID : Hid (∀ P O W, RgS w W P O nob → Rv O → (∀ o, o ∈ L ↔ o ∈ O) → O.length ≤ 1000 → Calls Try.prog 16 #[.pointer (some ⟨P, 0, none⟩)] W fun e w' => ∃ v c, e = .returned (.slice v ki c) ∧ RdE w' v ki I ∧ Below W.heap.size W w') := fun P O W h hO he hl => (s_ids h (by omega)).mono fun e w' q => by
    obtain ⟨v, rfl, q1, q2⟩ := q
    rw [← els_ext hLv hO he, ← hI, ← hki] at q1
    obtain ⟨v, c, rfl, _, _, q4, _⟩ := rdE_own14 q1
    exact ⟨v, c, rfl, q4, q2⟩
  have HAL : Hid (∀ P O W, RgS w W P O nob → Rv O → (∀ o, o ∈ L ↔ o ∈ O) → O.length ≤ 1000 → Calls Try.prog 17 #[.pointer (some ⟨P, 0, none⟩)] W fun e w' => ∃ v c, e = .returned (.slice v ka c) ∧ RdE w' v ka A ∧ Below W.heap.size W w') := fun P O W h hO he hl => (s_all h (by omega)).mono fun e w' q => by
    obtain ⟨v, rfl, q1, q2⟩ := q
    rw [← els_ext hLv hO he, ← hA, ← hka] at q1
    obtain ⟨v, c, rfl, _, _, q4, _⟩ := rdE_own14 q1
    exact ⟨v, c, rfl, q4, q2⟩
  have HVE : Hid (∀ P O W, RgS w W P O nob → Rv O → (∀ o, o ∈ L ↔ o ∈ O) → O.length ≤ 1000 → Calls Try.prog 19 #[.pointer (some ⟨P, 0, none⟩)] W fun e w' => ∃ v c, e = .returned (.slice v ke c) ∧ RdE w' v ke E ∧ Below W.heap.size W w') := fun P O W h hO he hl => (s_vec h (by omega)).mono fun e w' q => by
    obtain ⟨v, rfl, q1, q2⟩ := q
    rw [← vec_same hLv hO he, ← hE, ← hke] at q1
    obtain ⟨v, c, rfl, _, _, q4, _⟩ := rdE_own14 q1
    exact ⟨v, c, rfl, q4, q2⟩
  have HSC : Hid (∀ W (v u : Option Addr) c d, RdC W v k V → RdC W u k V → Calls Try.prog 13 #[.slice v k c, .slice u k d] W fun e w' => e = .returned (.bool true) ∧ Below W.heap.size W w') := fun W v u c d h1 h2 => (sameC_any V V v u k c k d W h1 h2 (by omega)).mono fun e w' q => by
    obtain ⟨rfl, g⟩ := q
    exact ⟨by simp, g.below⟩
  have HSI : Hid (∀ W (v u : Option Addr) q c d (R : List (Int × Int)), q ≤ 100 → RdE W v q R → RdE W u q R → Calls Try.prog 15 #[.slice v q c, .slice u q d] W fun e w' => e = .returned (.bool true) ∧ Below W.heap.size W w') := fun W v u q c d R hq h1 h2 => (sameI_any R R v u q c q d W h1 h2 (by omega)).mono fun e w' q => by
    obtain ⟨rfl, g⟩ := q
    exact ⟨by simp, g.below⟩
  have HSE : Hid (∀ W (v u : Option Addr) c d, RdE W v ke E → RdE W u ke E → Calls Try.prog 18 #[.slice v ke c, .slice u ke d] W fun e w' => e = .returned (.bool true) ∧ Below W.heap.size W w') := fun W v u c d h1 h2 => (same_any E E v u ke c ke d W h1 h2 (by omega)).mono fun e w' q => by
    obtain ⟨rfl, g⟩ := q
    exact ⟨by simp, g.below⟩
  have HKL : Hid (k ≤ 100 ∧ ki ≤ 100 ∧ ka ≤ 100 ∧ ke ≤ 100) := hkl
  clear hrd hro hL hLv hLl hnn hV hk hI hki hA hka hE hke hkl HX
  go_enter Try.func3, Try.ntmps3
  go_upto_region 7 with (first
    | (go_at_call 9; refine HSH.out.mono ?_; rintro e w1 ⟨rfl, hb⟩; have HB1 : Hid (Below w.heap.size w w1) := hb; clear hb)
    | (go_at_call 10; (first | (refine (HN2.out _ _ HS0.out).mono ?_; rintro e w3 ⟨Q, rfl, hs⟩; have HT0 : Hid (TtS w w3 P [] Q [] nob) := hs; clear hs) | (refine (HNW.out _ HB1.out).mono ?_; rintro e w2 ⟨P, rfl, hs⟩; have HS0 : Hid (RgS w w2 P [] nob) := hs; clear hs)))
    | (go_at_call 11; refine (HRI.out _ _ _ HT0.out).mono ?_; rintro e w4 ⟨b, c, rfl, hs, hbc⟩; have HT1 : Hid (TtR w w4 P [] Q [] L b n) := hs; have HBC : Hid (b = none → c = 0) := hbc; clear hs hbc))
  clear HNW HN2 HSH HRI HB1 HS0 HT0
  go_upto_region 8 with fail
  go_loopw [9] (fun x9 wr => ∃ i : Nat, x9 = .int .i64 (i : Int) ∧ i ≤ n ∧ TtR w wr P (L.take i) Q [] L b n) (fun x9 _ => n - (RowKit.intOf x9).toNat)
  case atStart => exact ⟨0, rfl, by omega, HT1.out⟩
  case round =>
    obtain ⟨i, h9, hi, ht⟩ := hrel
    subst h9
    by_cases hlt : i < n
    · obtain ⟨g, off, rfl, c0, c1, c2, c3, c4, c5, c6⟩ := ht.2.at i hlt
      have HP := HP1.out P Q _ wr i hlt ht
      have HPH : Hid (type_of% HP) := HP
      have hi0 : (0 : Int) ≤ (i : Int) := by omega
      have hi1 : (i : Int) < (n : Int) := by omega
      clear HP ht
      go_wp2_with (go_at_call 12; refine HPH.out.mono ?_; rintro e w5 ⟨rfl, g1⟩; have HG : Hid (type_of% g1) := g1; clear g1)
      go_roundw
      case rel => exact ⟨i + 1, by go_num, by omega, HG.out⟩
      case measure => simp [RowKit.intOf]; omega
    · obtain rfl : i = n := by omega
      have HT2 : Hid (TtR w wr P L Q [] L b i) := HTK.out _ _ _ _ ht
      clear ht HT1 HTK HP1
      have hOE : (wr.alloc (.cells #[] 34)).ownsRow wr.heap.size 34 7 (.slice (some ⟨wr.heap.size, 0, none⟩) 0 0) 0 [] := World.ownsRow_made wr #[] 0 (Nat.le_refl _) (by simp [maxLen]) rfl
      have HOE : Hid ((wr.alloc (.cells #[] 34)).ownsRow wr.heap.size 34 7 (.slice (some ⟨wr.heap.size, 0, none⟩) 0 0) 0 []) := hOE
      have HBA : Hid (Below wr.heap.size wr (wr.alloc (.cells #[] 34))) := (Below.refl _ wr).alloc (Nat.le_refl _) _
      have HSR : Hid (SrcAt (wr.alloc (.cells #[] 34)) b i c 7 (flatP L)) := srcPM (HT2.out.2.later HBA.out) HBC.out
      clear hOE
      go_upto_region 14 with (at_builtin; refine wpList_append_srcM rfl (.tmp 55) (.tmp 56) 22 rfl wr.heap.size 34 j0 op0.val 7 56 Try.underlying22 ji jz0 jz1 jz2 rfl (by decide) _ 0 [] rfl HOE.out b i c (flatP L) rfl HSR.out (by unfold maxLen; omega) (by omega) HBA.out.size ?_)
      intro v6 w6 o6 g6
      obtain ⟨lb, cb, rfl, hms⟩ := mts_new HT2.out (by simpa using o6) g6
      have HM0 : Hid (MtS w w6 P L Q [] lb i cb L) := hms
      clear hms o6 g6 HT2 HOE HBA HSR HBC
      go_upto_region 15 with fail
      go_loopw [13] (fun x13 wr => ∃ (m : Nat) (Lf : List Opn), x13 = .int .i64 (m : Int) ∧ m ≤ i ∧ ((∀ o, o ∈ Lf ↔ o ∈ L) ∧ Lf.length = i) ∧ MtS w wr P L Q [] lb i cb Lf) (fun x13 _ => i - (RowKit.intOf x13).toNat)
      case atStart => exact ⟨0, L, rfl, by omega, ⟨fun _ => Iff.rfl, HN.out.symm⟩, HM0.out⟩
      case round =>
        clear HM0
        obtain ⟨m, Lf, h13, hm, hLf, hms⟩ := hrel
        subst h13
        obtain ⟨z, hz⟩ : ∃ z, z = (decide (m < i) && decide (m < lo)) := ⟨_, rfl⟩
        have HZ : Hid (z = (decide (m < i) && decide (m < lo))) := hz
        have HMS : Hid (MtS w wr P L Q [] lb i cb Lf) := hms
        have HLF : Hid ((∀ o, o ∈ Lf ↔ o ∈ L) ∧ Lf.length = i) := hLf
        clear hms hLf hz
        go_upto_region 15 with fail
        go_cut [67] from 58 to 91 (fun x67 wx => x67 = .bool z ∧ wx = wr)
        case first =>
          by_cases h1 : m < i
          · have d1 : decide ((m : Int) < (i : Int)) = true := decide_eq_true (by omega)
            by_cases h2 : m < lo
            · have d2 : decide ((m : Int) < (lo : Int)) = true := decide_eq_true (by omega)
              have hz2 : z = true := by rw [HZ.out, decide_eq_true h1, decide_eq_true h2]; rfl
              subst hz2
              clear HZ
              go_wp2
              go_meet
              case rel => exact ⟨rfl, rfl⟩
            · have d2 : decide ((m : Int) < (lo : Int)) = false := decide_eq_false (by omega)
              have hz2 : z = false := by rw [HZ.out, decide_eq_true h1, decide_eq_false h2]; rfl
              subst hz2
              clear HZ
              go_wp2
              go_meet
              case rel => exact ⟨rfl, rfl⟩
          · have d1 : decide ((m : Int) < (i : Int)) = false := decide_eq_false (by omega)
            have hz2 : z = false := by rw [HZ.out, decide_eq_false h1]; rfl
            subst hz2
            clear HZ
            go_wp2
            go_meet
            case rel => exact ⟨rfl, rfl⟩
        case rest =>
          obtain ⟨rfl, hwc⟩ := hcut
          subst hwc
          cases z
          · clear HZ
            go_upto_region 20 with fail
            go_loopw [15] (fun x15 wr => ∃ (r : Nat) (B : List Opn), x15 = .int .i64 (r : Int) ∧ r ≤ i + 1 ∧ MtJ L Lf B r ∧ B.length ≤ r * 30 ∧ MtS w wr P L Q B lb i cb Lf) (fun x15 _ => i + 1 - (RowKit.intOf x15).toNat)
            case atStart => exact ⟨0, [], rfl, by omega, .inl ⟨Nat.zero_le _, mt_start⟩, by simp, HMS.out⟩
            case round =>
              clear HMS
              obtain ⟨r, B, h15, hr, hmj, hBl, hms⟩ := hrel
              subst h15
              have HMR : Hid (MtS w wr P L Q B lb i cb Lf) := hms
              clear hms
              by_cases hri : r ≤ i
              · have d1 : decide ((r : Int) ≤ (i : Int)) = true := decide_eq_true (by omega)
                have hmi : MtI L Lf B r 0 := by
                  rcases hmj with ⟨_, h⟩ | ⟨h, _⟩
                  · exact h
                  · exfalso; have := HN.out; omega
                have HMI : Hid (MtI L Lf B r 0) := hmi
                clear hmi hmj
                go_upto_region 23 with fail
                go_loopw [16] (fun x16 wr => ∃ (m : Nat) (C : List Opn), x16 = .int .i64 (m : Int) ∧ m ≤ i ∧ MtI L Lf C r m ∧ C.length ≤ r * 30 + m ∧ MtS w wr P L Q C lb i cb Lf) (fun x16 _ => i - (RowKit.intOf x16).toNat)
                case atStart => exact ⟨0, B, rfl, by omega, HMI.out, by omega, HMR.out⟩
                case round =>
                  clear HMI HMR
                  obtain ⟨m, C, h16, hm, hmi, hCl, hms⟩ := hrel
                  subst h16
                  by_cases hlt : m < i
                  · obtain ⟨g, rfl, _⟩ := hms.at (by omega)
                    obtain ⟨c0, c1, c2, c3, c4, c5, c6⟩ := hms.cells m hlt
                    obtain ⟨hnx, hans⟩ := mt_step HLV.out HLF.out.1 hmi (by rw [HLF.out.2]; exact hlt)
                    have HP := HP2.out P Q _ cb wr Lf C (Lf.getD m op0) (by omega) hms
                    have hpl := putO_len C (Lf.getD m op0)
                    generalize Lf.getD m op0 = X at c0 c1 c2 c3 c4 c5 c6 hnx hans HP hpl
                    have HNX : Hid (MtI L Lf (putO C X) r (m + 1)) := hnx
                    have hi0 : (0 : Int) ≤ (m : Int) := by omega
                    have hi1 : (m : Int) < (i : Int) := by omega
                    have hpl2 : (putO C X).length ≤ r * 30 + (m + 1) := by omega
                    clear hnx hmi hms hpl
                    generalize (putA C X).1 = zz at HP
                    rcases hans with hans | hans <;> rw [hans] at HP
                    all_goals
                      have HPH : Hid (type_of% HP) := HP
                      clear HP hans
                      go_wp2_with (go_at_call 12; refine HPH.out.mono ?_; rintro e w5 ⟨rfl, g1⟩; have HG : Hid (type_of% g1) := g1; clear g1)
                      go_roundw
                      case rel => exact ⟨m + 1, putO C X, by go_num, by omega, HNX.out, hpl2, HG.out⟩
                      case measure => simp [RowKit.intOf]; omega
                  · obtain rfl : i = m := by omega
                    have HJ : Hid (MtJ L Lf C (r + 1)) := mtj_next HLF.out.1 (by rw [HLF.out.2]; exact hmi) (by have := HN.out; omega)
                    have HMC : Hid (MtS w wr P L Q C lb i cb Lf) := hms
                    clear hmi hms
                    go_wp2
                    go_roundw
                    case rel => exact ⟨r + 1, C, by go_num, by omega, HJ.out, by omega, HMC.out⟩
                    case measure => simp [RowKit.intOf]; omega
              · have d1 : decide ((r : Int) ≤ (i : Int)) = false := decide_eq_false (by omega)
                have heb : Rv B ∧ ∀ o, o ∈ L ↔ o ∈ B := by
                  rcases hmj with ⟨h, _⟩ | ⟨_, h⟩
                  · exfalso; have := HN.out; omega
                  · exact h
                have HEB : Hid (Rv B ∧ ∀ o, o ∈ L ↔ o ∈ B) := heb
                have HLL : Hid (L.length ≤ 1000 ∧ B.length ≤ 1000) := ⟨by have := HN.out; omega, by omega⟩
                have HS7 : Hid (TtS w wr P L Q B nob) := HMR.out.1.more (Below.refl _ _) (fun k hk => hk.elim)
                clear heb hmj HMR HP2
                go_wp2_with (first
                    | (go_at_call 14; (first | (refine (HVS.out Q B _ HS8.out.swap.one HEB.out.1 HEB.out.2 HLL.out.2).mono ?_; rintro e w9 ⟨v9, c9, rfl, g1, g2⟩; have HR9 : Hid (RdC w9 v9 k V) := g1; have HQ8 : Hid (RdC w9 v8 k V) := HR8.out.later g2; have HS9 : Hid (TtS w w9 P L Q B nob) := HS8.out.later g2; clear g1 g2) | (refine (HVS.out P L _ HS7.out.one HLV.out (fun _ => Iff.rfl) HLL.out.1).mono ?_; rintro e w8 ⟨v8, c8, rfl, g1, g2⟩; have HR8 : Hid (RdC w8 v8 k V) := g1; have HS8 : Hid (TtS w w8 P L Q B nob) := HS7.out.later g2; clear g1 g2)))
                    | (go_at_call 13; (first | (refine (HSC.out _ _ _ _ _ HQ8.out HR9.out).mono ?_; rintro e w10 ⟨rfl, g1⟩; have HS10 : Hid (TtS w w10 P L Q B nob) := HS9.out.later g1; clear g1)))
                    | (go_at_call 16; (first | (refine (HID.out Q B _ HS11.out.swap.one HEB.out.1 HEB.out.2 HLL.out.2).mono ?_; rintro e w12 ⟨v12, c12, rfl, g1, g2⟩; have HR12 : Hid (RdE w12 v12 ki I) := g1; have HQ11 : Hid (RdE w12 v11 ki I) := HR11.out.later g2; have HS12 : Hid (TtS w w12 P L Q B nob) := HS11.out.later g2; clear g1 g2) | (refine (HID.out P L _ HS10.out.one HLV.out (fun _ => Iff.rfl) HLL.out.1).mono ?_; rintro e w11 ⟨v11, c11, rfl, g1, g2⟩; have HR11 : Hid (RdE w11 v11 ki I) := g1; have HS11 : Hid (TtS w w11 P L Q B nob) := HS10.out.later g2; clear g1 g2)))
                    | (go_at_call 15; (first | (refine (HSI.out _ _ _ _ _ _ A HKL.out.2.2.1 HQ14.out HR15.out).mono ?_; rintro e w16 ⟨rfl, g1⟩; have HS16 : Hid (TtS w w16 P L Q B nob) := HS15.out.later g1; clear g1) | (refine (HSI.out _ _ _ _ _ _ I HKL.out.2.1 HQ11.out HR12.out).mono ?_; rintro e w13 ⟨rfl, g1⟩; have HS13 : Hid (TtS w w13 P L Q B nob) := HS12.out.later g1; clear g1)))
                    | (go_at_call 17; (first | (refine (HAL.out Q B _ HS14.out.swap.one HEB.out.1 HEB.out.2 HLL.out.2).mono ?_; rintro e w15 ⟨v15, c15, rfl, g1, g2⟩; have HR15 : Hid (RdE w15 v15 ka A) := g1; have HQ14 : Hid (RdE w15 v14 ka A) := HR14.out.later g2; have HS15 : Hid (TtS w w15 P L Q B nob) := HS14.out.later g2; clear g1 g2) | (refine (HAL.out P L _ HS13.out.one HLV.out (fun _ => Iff.rfl) HLL.out.1).mono ?_; rintro e w14 ⟨v14, c14, rfl, g1, g2⟩; have HR14 : Hid (RdE w14 v14 ka A) := g1; have HS14 : Hid (TtS w w14 P L Q B nob) := HS13.out.later g2; clear g1 g2)))
                    | (go_at_call 19; (first | (refine (HVE.out Q B _ HS17.out.swap.one HEB.out.1 HEB.out.2 HLL.out.2).mono ?_; rintro e w18 ⟨v18, c18, rfl, g1, g2⟩; have HR18 : Hid (RdE w18 v18 ke E) := g1; have HQ17 : Hid (RdE w18 v17 ke E) := HR17.out.later g2; have HS18 : Hid (TtS w w18 P L Q B nob) := HS17.out.later g2; clear g1 g2) | (refine (HVE.out P L _ HS16.out.one HLV.out (fun _ => Iff.rfl) HLL.out.1).mono ?_; rintro e w17 ⟨v17, c17, rfl, g1, g2⟩; have HR17 : Hid (RdE w17 v17 ke E) := g1; have HS17 : Hid (TtS w w17 P L Q B nob) := HS16.out.later g2; clear g1 g2)))
                    | (go_at_call 18; (first | (refine (HSE.out _ _ _ _ _ HQ17.out HR18.out).mono ?_; rintro e w19 ⟨rfl, g1⟩; have HS19 : Hid (TtS w w19 P L Q B nob) := HS18.out.later g1; clear g1))))
                go_ret
                exact ⟨rfl, HS19.out.below⟩
          · have hmi : m < i ∧ m < lo := by
              have := HZ.out
              simpa using this.symm
            obtain ⟨h1, h2⟩ := hmi
            clear HZ
            have HBW : Hid (Below w.heap.size w wc) := HMS.out.1.below
            obtain ⟨b1, o1, rfl, c0⟩ := (HY.out wc HBW.out).at m h2
            generalize ys.getD m 0 = Y at c0
            obtain ⟨r, hr⟩ : ∃ r : Nat, bits .and .i64 Y 65535 = (r : Int) := ⟨(Y % 2 ^ 16).toNat, by rw [and_low Y 65535 16 (by omega) (by decide)]; omega⟩
            obtain ⟨kk, hkk⟩ : ∃ kk, kk = r % i := ⟨_, rfl⟩
            have hki : kk < i := by rw [hkk]; exact Nat.mod_lt _ (by omega)
            have hrem : (r : Int).tmod (i : Int) = (kk : Int) := by rw [Int.tmod_eq_emod_of_nonneg (by omega), hkk]; simp
            have hrem2 : (r : Int) % (i : Int) = (kk : Int) := by rw [hkk]; simp
            have hL0 : (i : Int) ≠ 0 := by omega
            have hi0 : (0 : Int) ≤ (m : Int) := by omega
            have hi1 : (m : Int) < (lo : Int) := by omega
            clear hkk
            go_upto_region 18 with fail
            obtain ⟨g, rfl, _⟩ := HMS.out.at (by omega)
            have HMD : Hid (MtS w wc.drew P L Q [] (some ⟨g, 0, none⟩) i cb Lf) := HMS.out.later (Below.refl _ wc).drew
            obtain ⟨X, hX⟩ : ∃ X, X = Lf.getD kk op0 := ⟨_, rfl⟩
            obtain ⟨Z, hZ⟩ : ∃ Z, Z = Lf.getD m op0 := ⟨_, rfl⟩
            obtain ⟨x0, x1, x2, x3, x4, x5, x6⟩ := HMD.out.cells kk hki
            obtain ⟨y0, y1, y2, y3, y4, y5, y6⟩ := HMD.out.cells m h1
            rw [← hX] at x0 x1 x2 x3 x4 x5 x6
            rw [← hZ] at y0 y1 y2 y3 y4 y5 y6
            have HTH1 : Hid (wc.drew.there g (m * 7) 7) := HMD.out.there m h1
            obtain ⟨W2, hW2⟩ : ∃ W2, W2 = wc.drew.setCells g (m * 7) (#[.int .i64 X.c, .int .i64 X.a, .int .i64 X.s, .bool X.ins, .int .i64 X.rc, .int .i64 X.ra, .int .i32 X.ch] : Array Value).toList := ⟨_, rfl⟩
            obtain ⟨W3, hW3⟩ : ∃ W3, W3 = W2.setCells g (kk * 7) (#[.int .i64 Z.c, .int .i64 Z.a, .int .i64 Z.s, .bool Z.ins, .int .i64 Z.rc, .int .i64 Z.ra, .int .i32 Z.ch] : Array Value).toList := ⟨_, rfl⟩
            have HW2 : Hid (W2 = wc.drew.setCells g (m * 7) (#[.int .i64 X.c, .int .i64 X.a, .int .i64 X.s, .bool X.ins, .int .i64 X.rc, .int .i64 X.ra, .int .i32 X.ch] : Array Value).toList) := hW2
            have HW3 : Hid (W3 = W2.setCells g (kk * 7) (#[.int .i64 Z.c, .int .i64 Z.a, .int .i64 Z.s, .bool Z.ins, .int .i64 Z.rc, .int .i64 Z.ra, .int .i32 Z.ch] : Array Value).toList) := hW3
            have hms2 : MtS w W2 P L Q [] (some ⟨g, 0, none⟩) i cb (Lf.set m X) := by rw [hW2]; exact mts_set HMD.out m h1 X
            have HTH2 : Hid (W2.there g (kk * 7) 7) := hms2.there kk hki
            have hms3 : MtS w W3 P L Q [] (some ⟨g, 0, none⟩) i cb ((Lf.set m X).set kk Z) := by rw [hW3]; exact mts_set hms2 kk hki Z
            have HEND : Hid (MtS w W3 P L Q [] (some ⟨g, 0, none⟩) i cb ((Lf.set m X).set kk Z)) := hms3
            clear hW2 hW3 hms2 hms3
            have HLE : Hid ((∀ o, o ∈ (Lf.set m X).set kk Z ↔ o ∈ L) ∧ ((Lf.set m X).set kk Z).length = i) := by
              have hh : (∀ o, o ∈ (Lf.set m X).set kk Z ↔ o ∈ L) ∧ ((Lf.set m X).set kk Z).length = i := by
                refine ⟨fun o => ?_, by simp; exact HLF.out.2⟩
                rw [hX, hZ, swap_mem Lf m kk (by rw [HLF.out.2]; exact h1) (by rw [HLF.out.2]; exact hki) o]
                exact HLF.out.1 o
              exact hh
            have hk0 : (0 : Int) ≤ (kk : Int) := by omega
            have hk1 : (kk : Int) < (i : Int) := by omega
            have hm1 : (m : Int) < (i : Int) := by omega
            clear hX hZ HMD HMS HLF hki h1 h2 c0
            refine wp_region_any (by kernel_rfl) ?_
            try (change wpAny _ _ _ _ _ _ _ (World.drew _))
            refine wpAny_take (i := 0) (v := ?_) rfl (by kernel_rfl) (by kernel_rfl) (by kernel_rfl) (fun _ _ _ h => h) (Or.inl ⟨by rfl, ?_⟩) ?_
            rotate_left
            · intro W'
              go_simp
              try with_reducible rfl
            go_simp
            refine wpAny_take (i := 1) (v := ?_) rfl (by kernel_rfl) (by kernel_rfl) (by kernel_rfl) (fun _ _ _ h => h) (Or.inl ⟨by rfl, ?_⟩) ?_
            rotate_left
            · intro W'
              go_simp
              try with_reducible rfl
            go_simp
            refine wpAny_take (i := 2) (v := ?_) rfl (by kernel_rfl) (by kernel_rfl) (by kernel_rfl) (fun _ _ _ h => h) (Or.inl ⟨by rfl, ?_⟩) ?_
            rotate_left
            · intro W'
              go_simp
              try with_reducible rfl
            go_simp
            refine wpAny_take (i := 3) (v := ?_) rfl (by kernel_rfl) (by kernel_rfl) (by kernel_rfl) (fun _ _ _ h => h) (Or.inl ⟨by rfl, ?_⟩) ?_
            rotate_left
            · intro W'
              go_simp
              try with_reducible rfl
            go_simp
            refine wpAny_take (i := 4) (v := ?_) rfl (by kernel_rfl) (by kernel_rfl) (by kernel_rfl) (fun _ _ _ h => h) (Or.inl ⟨by rfl, ?_⟩) ?_
            rotate_left
            · intro W'
              go_simp
              try with_reducible rfl
            go_simp
            refine wpAny_take (i := 5) (v := ?_) rfl (by kernel_rfl) (by kernel_rfl) (by kernel_rfl) (fun _ _ _ h => h) (Or.inl ⟨by rfl, ?_⟩) ?_
            rotate_left
            · intro W'
              go_simp
              try with_reducible rfl
            go_simp
            refine wpAny_take (i := 8) (v := ?_) rfl (by kernel_rfl) (by kernel_rfl) (by kernel_rfl) (fun _ _ _ h => h) (Or.inl ⟨by rfl, ?_⟩) ?_
            rotate_left
            · intro W'
              go_simp
              try with_reducible rfl
            go_simp
            refine wpAny_take (i := 9) (v := ?_) rfl (by kernel_rfl) (by kernel_rfl) (by kernel_rfl) (fun _ _ _ h => h) (Or.inl ⟨by rfl, ?_⟩) ?_
            rotate_left
            · intro W'
              go_simp
              try with_reducible rfl
            go_simp
            refine wpAny_take (i := 6) (v := ?_) rfl (by kernel_rfl) (by kernel_rfl) (by kernel_rfl) (fun _ _ _ h => h) (Or.inl ⟨by rfl, ?_⟩) ?_
            rotate_left
            · intro W'
              go_simp
              try with_reducible rfl
            go_simp
            refine wpAny_take (i := 10) (v := ?_) rfl (by kernel_rfl) (by kernel_rfl) (by kernel_rfl) (fun _ _ _ h => h) (Or.inl ⟨by rfl, ?_⟩) ?_
            rotate_left
            · intro W'
              go_simp
              try with_reducible rfl
            go_simp
            refine wpAny_ready (rs := [7, 11]) (by kernel_rfl) (by simp) ?_
            refine AllReady.cons rfl (fun K hK => ?_) (AllReady.cons rfl (fun K hK => ?_) AllReady.nil)
            · go_simp
              refine hK _ _ ?_
              clear hK K
              try simp only [Act.put, List.getElem_toArray, List.getElem_cons_succ, List.getElem_cons_zero, List.setIfInBounds_toArray, List.set_cons_zero, List.set_cons_succ]
              refine wpAny_ready (rs := [11]) (by kernel_rfl) (by simp) ?_
              refine AllReady.cons rfl (fun K hK => ?_) AllReady.nil
              go_simp
              refine hK _ _ ?_
              clear hK K
              try simp only [Act.put, List.getElem_toArray, List.getElem_cons_succ, List.getElem_cons_zero, List.setIfInBounds_toArray, List.set_cons_zero, List.set_cons_succ]
              refine wpAny_take (i := 12) (v := ?_) rfl (by kernel_rfl) (by kernel_rfl) (by kernel_rfl) (fun _ _ _ h => h) (Or.inl ⟨by rfl, ?_⟩) ?_
              rotate_left
              · intro W'
                go_simp
                try with_reducible rfl
              go_simp
              refine wpAny_ready (rs := [13]) (by kernel_rfl) (by simp) ?_
              refine AllReady.cons rfl (fun K hK => ?_) AllReady.nil
              try rw [if_pos (by rfl)]
              refine wp_store_mid 34 (.tmp 90) (.tmp 85) rfl g (m * 7) #[.int .i64 X.c, .int .i64 X.a, .int .i64 X.s, .bool X.ins, .int .i64 X.rc, .int .i64 X.ra, .int .i32 X.ch] rfl rfl HTH1.out (by kernel_rfl) (by simp [Value.oneCell']) ?_
              rw [← HW2.out]
              refine hK _ _ ?_
              clear hK K
              try simp only [Act.put, List.getElem_toArray, List.getElem_cons_succ, List.getElem_cons_zero, List.setIfInBounds_toArray, List.set_cons_zero, List.set_cons_succ]
              refine wpAny_take (i := 14) (v := ?_) rfl (by kernel_rfl) (by kernel_rfl) (by kernel_rfl) (fun _ _ _ h => h) (Or.inl ⟨by rfl, ?_⟩) ?_
              rotate_left
              · intro W'
                go_simp
                try with_reducible rfl
              go_simp
              refine wpAny_ready (rs := [15]) (by kernel_rfl) (by simp) ?_
              refine AllReady.cons rfl (fun K hK => ?_) AllReady.nil
              try rw [if_pos (by rfl)]
              refine wp_store_mid 34 (.tmp 91) (.tmp 89) rfl g (kk * 7) #[.int .i64 Z.c, .int .i64 Z.a, .int .i64 Z.s, .bool Z.ins, .int .i64 Z.rc, .int .i64 Z.ra, .int .i32 Z.ch] rfl rfl HTH2.out (by kernel_rfl) (by simp [Value.oneCell']) ?_
              rw [← HW3.out]
              refine hK _ _ ?_
              clear hK K
              try simp only [Act.put, List.getElem_toArray, List.getElem_cons_succ, List.getElem_cons_zero, List.setIfInBounds_toArray, List.set_cons_zero, List.set_cons_succ]
              refine wpAny_done (by kernel_rfl) ?_ _
              try refine NoPanic.normal ?_
              go_wp2
              go_roundw
              case rel => exact ⟨m + 1, _, by go_num, by omega, HLE.out, HEND.out⟩
              case measure => simp [RowKit.intOf]; omega
            · go_simp
              refine hK _ _ ?_
              clear hK K
              try simp only [Act.put, List.getElem_toArray, List.getElem_cons_succ, List.getElem_cons_zero, List.setIfInBounds_toArray, List.set_cons_zero, List.set_cons_succ]
              refine wpAny_ready (rs := [7]) (by kernel_rfl) (by simp) ?_
              refine AllReady.cons rfl (fun K hK => ?_) AllReady.nil
              go_simp
              refine hK _ _ ?_
              clear hK K
              try simp only [Act.put, List.getElem_toArray, List.getElem_cons_succ, List.getElem_cons_zero, List.setIfInBounds_toArray, List.set_cons_zero, List.set_cons_succ]
              refine wpAny_take (i := 12) (v := ?_) rfl (by kernel_rfl) (by kernel_rfl) (by kernel_rfl) (fun _ _ _ h => h) (Or.inl ⟨by rfl, ?_⟩) ?_
              rotate_left
              · intro W'
                go_simp
                try with_reducible rfl
              go_simp
              refine wpAny_ready (rs := [13]) (by kernel_rfl) (by simp) ?_
              refine AllReady.cons rfl (fun K hK => ?_) AllReady.nil
              try rw [if_pos (by rfl)]
              refine wp_store_mid 34 (.tmp 90) (.tmp 85) rfl g (m * 7) #[.int .i64 X.c, .int .i64 X.a, .int .i64 X.s, .bool X.ins, .int .i64 X.rc, .int .i64 X.ra, .int .i32 X.ch] rfl rfl HTH1.out (by kernel_rfl) (by simp [Value.oneCell']) ?_
              rw [← HW2.out]
              refine hK _ _ ?_
              clear hK K
              try simp only [Act.put, List.getElem_toArray, List.getElem_cons_succ, List.getElem_cons_zero, List.setIfInBounds_toArray, List.set_cons_zero, List.set_cons_succ]
              refine wpAny_take (i := 14) (v := ?_) rfl (by kernel_rfl) (by kernel_rfl) (by kernel_rfl) (fun _ _ _ h => h) (Or.inl ⟨by rfl, ?_⟩) ?_
              rotate_left
              · intro W'
                go_simp
                try with_reducible rfl
              go_simp
              refine wpAny_ready (rs := [15]) (by kernel_rfl) (by simp) ?_
              refine AllReady.cons rfl (fun K hK => ?_) AllReady.nil
              try rw [if_pos (by rfl)]
              refine wp_store_mid 34 (.tmp 91) (.tmp 89) rfl g (kk * 7) #[.int .i64 Z.c, .int .i64 Z.a, .int .i64 Z.s, .bool Z.ins, .int .i64 Z.rc, .int .i64 Z.ra, .int .i32 Z.ch] rfl rfl HTH2.out (by kernel_rfl) (by simp [Value.oneCell']) ?_
              rw [← HW3.out]
              refine hK _ _ ?_
              clear hK K
              try simp only [Act.put, List.getElem_toArray, List.getElem_cons_succ, List.getElem_cons_zero, List.setIfInBounds_toArray, List.set_cons_zero, List.set_cons_succ]
              refine wpAny_done (by kernel_rfl) ?_ _
              try refine NoPanic.normal ?_
              go_wp2
              go_roundw
              case rel => exact ⟨m + 1, _, by go_num, by omega, HLE.out, HEND.out⟩
              case measure => simp [RowKit.intOf]; omega
end Go.Proofs.Ytcbnmahbdcjamaa
