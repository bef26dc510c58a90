/- The walk of FrameCuts. -/
import Derived.Test.YtcbnmahbdcjamaaFrCt
import Derived.Deep.RegionHeld3
namespace Go.Proofs.Ytcbnmahbdcjamaa
open Go.ChangeShapes Go.WideShapes Go.ChangeAt Go.RowKit Go.Sort
set_option linter.unusedVariables false
set_option linter.unusedSimpArgs false

def GoodF (f : Frm) : Prop := ∃ g, f = cutF g ∧ frB (cutF g) = true
theorem infoF15 : (Try.prog.info? 51).map (fun i => (i.zero, i.size, i.bytes)) = some (some (.agg #[.int .i64 0, .int .i64 0, .slice none 0 0, .slice none 0 0, .int .i64 0]), 5, 72) := by kernel_rfl
def flB (L : List FE) : List Int := L.flatMap fun p => bytesN p.f
theorem flB_len : (L : List FE) → (∀ p ∈ L, GoodF p.f) → (flB L).length ≤ 20000 * L.length
  | [], _ => by simp [flB]
  | p :: r, h => by
    have ih := flB_len r (fun q hq => h q (List.mem_cons_of_mem _ hq))
    obtain ⟨g, hg, _⟩ := h p List.mem_cons_self
    have := bytes_len g
    rw [← hg] at this
    rw [flB, List.flatMap_cons, List.length_append, List.length_cons]
    rw [flB] at ih
    omega
theorem flB_byt : (L : List FE) → (∀ p ∈ L, GoodF p.f) → Byt (flB L)
  | [], _ => by intro y hy; cases hy
  | p :: r, h => by
    have ih := flB_byt r (fun q hq => h q (List.mem_cons_of_mem _ hq))
    obtain ⟨g, hg, hb⟩ := h p List.mem_cons_self
    have := bytes_byt g hb
    rw [← hg] at this
    rw [flB, List.flatMap_cons]
    exact this.app ih
theorem fe_of {W : World} {v : Value} {f : Frm} {B : Nat} (h : FrAtD W v f B) : ∃ p : FE, v = p.val ∧ p.f = f ∧ RowsAt W p ∧ ∀ k, RowB p k → B ≤ k := by
  obtain ⟨va, vn, vc, oa, on, oc, e, h1, h2, h3, h4, h5, h6, h7, h8⟩ := h
  refine ⟨⟨f, va, vn, vc, oa, on, oc⟩, e, rfl, ⟨h1, h2, h3, h4, h5, h6⟩, fun k hk => ?_⟩
  rcases hk with ⟨_, x, hx, rfl⟩ | ⟨_, x, hx, rfl⟩
  · exact h7 x hx
  · exact h8 x hx
theorem lpa_end {w W W' : World} {va vo : Value} {bs : List Int} {L : List FE} (h : LpA w W va vo bs L L) (hg : W.grownBy W' va.ownBlock) : Below w.heap.size w W' ∧ ∃ oa oc, vo = .slice oa L.length oc ∧ L.length ≤ oc ∧ RdFs W' oa L.length L := by
  have hc := cg_gb hg
  have ho := cg_own hc h.2.2.1 (fun k hk q => own_apart h.2.1 h.2.2.1 (by decide) q hk)
  have hr : ∀ p ∈ L, RowsAt W' p := fun p hp => (h.2.2.2 p hp).1.keep (fun k hk => hc.2.2.2.2 k ((h.2.2.2 p hp).1.lt hk) ((h.2.2.2 p hp).2 k hk).1)
  have hb : Below w.heap.size w W' := h.1.trans (cg_bel hc h.1.size (fun k hk => (h.2.1.lt k hk).1))
  rcases id ho.2 with ⟨rfl, h0⟩ | ⟨g, cap, cur, rfl, _, _, hn, _⟩
  · obtain rfl := List.eq_nil_of_length_eq_zero h0
    exact ⟨hb, none, 0, rfl, Nat.le_refl _, rfl, fun h => absurd h (by decide), fun p hp => by cases hp⟩
  · exact ⟨hb, some ⟨g, 0, none⟩, cap, rfl, hn, rdFs_own ho hr⟩
theorem flB_at : (L : List FE) → (t : Nat) → t < L.length → flB (L.drop t) = bytesN (L.getD t fe0).f ++ flB (L.drop (t + 1))
  | [], t, h => by simp at h
  | x :: r, 0, _ => by simp [flB]
  | x :: r, t + 1, h => by
    have ih := flB_at r t (by simpa using h)
    simpa using ih
theorem getD_mem {L : List FE} {t : Nat} (h : t < L.length) : L.getD t fe0 ∈ L := by simp [List.getD, List.getElem?_eq_getElem h]
set_option maxRecDepth 100000 in
set_option maxHeartbeats 8000000 in
theorem frameCuts_walk (FS : List FE) (fa : Option Addr) (fn fc : Nat) (xs : List Int) (a : Option Addr) (len cap : Nat) (sh : Int) (w : World) (hF : RdFs w fa fn FS) (hfc : fn ≤ fc) (hrd : Rd .u8 w a len xs) (hby : Byt xs) (hcap : len ≤ cap) (hnone : a = none → cap = 0) (lo : -9223372036854775808 ≤ sh) (hi : sh ≤ 9223372036854775807) :
    Calls Try.prog 7 #[.slice fa fn fc, .slice a len cap, .int .i64 sh] w fun e w' => e = .returned (.bool true) ∧ Below w.heap.size w w' := by
  obtain ⟨i0, hi0, hi1, hi2, hi3⟩ := info_parts info_u8
  obtain ⟨j0, hj0, hj1, hj2, hj3⟩ := info_parts infoF15
  have HI : Hid _ := And.intro hi0 (And.intro hi1 (And.intro hi2 hi3))
  have HJ : Hid _ := And.intro hj0 (And.intro hj1 (And.intro hj2 hj3))
  clear hi0 hi1 hi2 hi3 hj0 hj1 hj2 hj3
  obtain ⟨q, hq⟩ : ∃ q, q = min len 50 := ⟨_, rfl⟩
  have hmin := min_run len q 50 (by omega)
  have hct := fun W => cut_bytes a len cap q (by omega) W
  have hq2 : q ≤ 50 := by omega
  have HCB : Hid (Byt (xs.take q)) := hby.take q
  have HRD : Hid (∀ W, Below w.heap.size w W → Rd .u8 W a q (xs.take q)) := fun W h => (hrd.later h).take q (by omega)
  have hqc : q ≤ cap := by omega
  have HNN : Hid (a = none → cap = 0) := hnone
  generalize xs.take q = ms at HCB HRD
  clear hrd hby hcap hq hnone
  have HFS : Hid (∀ W, Below w.heap.size w W → RdFs W fa fn FS) := fun W h => hF.later h
  have HFL : Hid (fn = FS.length ∧ fn ≤ fc) := ⟨hF.1.symm, hfc⟩
  clear hF hfc
  go_enter Try.func7, Try.ntmps7
  go_upto_region 2 with (go_at_call 24; refine (shown15_any _).mono ?_; rintro e w2 ⟨rfl, hb⟩; have HB2 : Hid (Below w.heap.size w w2) := hb; clear hb)
  go_wp2
  clear hmin hct
  go_loopw [8, 9, 10] (fun x8 x9 x10 wr => ∃ (i : Nat) (L : List FE), x10 = .int .i64 (i : Int) ∧ i ≤ 10 ∧ L.length ≤ i ∧ (∀ p ∈ L, GoodF p.f) ∧ LpA w wr x8 x9 (flB L) L L) (fun _ _ x10 _ => 11 - (RowKit.intOf x10).toNat)
  case atStart => exact ⟨0, [], rfl, by omega, by simp, fun p hp => (by cases hp), HB2.out, World.ownsRow_nil _ _ _ _, World.ownsRow_nil _ _ _ _, fun p hp => (by cases hp)⟩
  case round =>
    obtain ⟨i, L, hx, hi10, hLi, hgd, hlp⟩ := hrel
    subst hx
    have HLP : Hid (LpA w wr u8 u9 (flB L) L L) := hlp
    have HGD : Hid (∀ p ∈ L, GoodF p.f) := hgd
    clear hlp hgd
    go_upto_region 6 with fail
    go_cut [35] from 28 to 56 (fun x35 wx => x35 = .bool (decide (i < fn ∧ i < 10)) ∧ wx = wr)
    case first =>
      by_cases h1 : i < fn
      · by_cases h2 : i < 10
        · go_wp2
          go_meet
          exact ⟨by congr 1; rw [decide_eq_decide]; omega, rfl⟩
        · go_wp2
          go_meet
          exact ⟨by congr 1; rw [decide_eq_decide]; omega, rfl⟩
      · go_wp2
        go_meet
        exact ⟨by congr 1; simp [h1], rfl⟩
    case rest =>
    obtain ⟨rfl, rfl⟩ := hcut
    by_cases hin : i < fn ∧ i < 10
    · have hd : decide (i < fn ∧ i < 10) = true := by simp [hin.1, hin.2]
      rw [hd]
      obtain ⟨h1, h2⟩ := hin
      have HIN : Hid (i < fn ∧ i < 10) := ⟨h1, h2⟩
      obtain ⟨b, off, hfa, ⟨x0, x1, x2, x3, x4⟩, hrow⟩ := (HFS.out wc HLP.out.1).at i h1
      obtain ⟨p0, hp0⟩ : ∃ p0, p0 = FS.getD i fe0 := ⟨_, rfl⟩
      rw [← hp0] at x0 x1 x2 x3 x4 hrow
      have HROW : Hid (RowsAt wc p0) := hrow
      have hfl := HFL.out.2
      subst hfa
      clear hp0 hrow hd
      go_upto_region 9 with (go_at_call 25
                             refine (cut_any p0.f _ _ HROW.out.atC).mono ?_
                             rintro e w3 ⟨v', rfl, hat, hb⟩
                             obtain ⟨p, rfl, hpf, hpr, hpb⟩ := fe_of hat
                             have HLP2 : Hid (LpA w w3 u8 u9 (flB L) L (L ++ [p])) := HLP.out.more hb hpr hpb
                             have HPF : Hid (p.f = cutF p0.f) := hpf
                             clear hat hb hpf hpr hpb x0 x1 x2 x3 x4)
      have HGOOD : Hid (∀ z, frB (cutF p0.f) = z → z = true → GoodF p.f) := fun z h1 h2 => ⟨p0.f, HPF.out, h1.trans h2⟩
      obtain ⟨X, hX⟩ : ∃ X, X = w3.heap.size := ⟨_, rfl⟩
      obtain ⟨W4, hW4⟩ : ∃ W4, W4 = w3.alloc (.cells #[.int .i64 p.f.kind, .int .i64 p.f.fr, .slice p.va p.vn p.vc, .slice p.oa p.on p.oc, .int .i64 p.f.next] 51) := ⟨_, rfl⟩
      have hc4 : W4.heap[X]? = some (.cells #[.int .i64 p.f.kind, .int .i64 p.f.fr, .slice p.va p.vn p.vc, .slice p.oa p.on p.oc, .int .i64 p.f.next] 51) := by rw [hX, hW4]; exact heap_alloc_new w3 _
      have hlp4 : LpA w W4 u8 u9 (flB L) L (L ++ [p]) := by rw [hW4]; exact HLP2.out.later ((Below.refl _ _).alloc (Nat.le_refl _) _)
      have HLP4 : Hid (LpA w W4 u8 u9 (flB L) L (L ++ [p])) := hlp4
      have HC4 : Hid (W4.heap[X]? = some (.cells #[.int .i64 p.f.kind, .int .i64 p.f.fr, .slice p.va p.vn p.vc, .slice p.oa p.on p.oc, .int .i64 p.f.next] 51)) := hc4
      have HXO : Hid (u8.ownBlock ≠ some X ∧ u9.ownBlock ≠ some X) := ⟨fun e => by have := (HLP2.out.2.1.lt X e).2; omega, fun e => by have := (HLP2.out.2.2.1.lt X e).2; omega⟩
      rw [← hX, ← hW4]
      clear hc4 hlp4 hX hW4 HLP2
      have HFT : Hid (FrAt W4 p.val (cutF p0.f)) := HPF.out ▸ (HLP4.out.2.2.2 p (by simp)).1.at
      obtain ⟨⟨x0, x1, x2, x3, x4⟩, _⟩ := cells5 HC4.out
      cases hfb : frB (cutF p0.f)
      · have HFB : Hid (frB (cutF p0.f) = false) := hfb
        clear hfb
        go_wp2_with (go_at_call 26; refine (c_bytes p0.f _ _ HFT.out).mono ?_; rintro e w5 ⟨h1, h2, hb⟩; obtain rfl := h2 HFB.out; have HBB5 : Hid (Below W4.heap.size W4 w5) := hb; clear h1 h2 hb x0 x1 x2 x3 x4)
        go_roundw
        case rel => exact ⟨i + 1, L, by go_num, by omega, by omega, HGD.out, (HLP4.out.later HBB5.out).fewer (fun q hq => List.mem_append_left _ hq)⟩
        case measure => simp [RowKit.intOf]; omega
      · have HFB : Hid (frB (cutF p0.f) = true) := hfb
        clear hfb
        have hmn := bytes_min p0.f
        have hmx := bytes_len p0.f
        obtain ⟨n, hn⟩ : ∃ n, n = (bytesN (cutF p0.f)).length := ⟨_, rfl⟩
        have HN : Hid ((bytesN (cutF p0.f)).length = n) := hn.symm
        rw [← hn] at hmn hmx
        clear hn
        go_upto_region 11 with (go_at_call 26
                                refine (c_bytes p0.f _ _ HFT.out).mono ?_
                                rintro e w5 ⟨h1, h2, hb⟩
                                obtain ⟨a5, c5, rfl, hc, hm, hr5⟩ := h1 HFB.out
                                rw [HN.out] at hr5
                                rw [HN.out]
                                obtain ⟨b5, off5, rfl, hcell5⟩ := hr5.2 (by omega)
                                have HR5 : Hid (Rd .u8 w5 (some ⟨b5, off5, none⟩) n (bytesN (cutF p0.f))) := hr5
                                have HLP5 : Hid (LpA w w5 u8 u9 (flB L) L (L ++ [p])) := HLP4.out.later hb
                                have HC5 : Hid (w5.heap[X]? = some (.cells #[.int .i64 p.f.kind, .int .i64 p.f.fr, .slice p.va p.vn p.vc, .slice p.oa p.on p.oc, .int .i64 p.f.next] 51)) := (hb.block X (Array.getElem?_eq_some_iff.1 HC4.out).1).trans HC4.out
                                clear h1 h2 hb hc hm hr5 hcell5 x0 x1 x2 x3 x4)
        have hfb := flB_len L HGD.out
        have HFLB : Hid ((flB L).length ≤ 200000) := (show _ ≤ _ by omega)
        clear hfb
        go_upto_region 12 with (at_builtin
                                refine wpList_append_lies _ rfl _ _ 53 rfl w.heap.size 5 i0 _ 1 1 Try.underlying53 HI.out.1 HI.out.2.1 HI.out.2.2.1 HI.out.2.2.2 rfl (by decide) u8 (flB L).length ((flB L).map (Value.int .u8)) rfl HLP5.out.2.1 ⟨b5, off5, none⟩ n c5 ((bytesN (cutF p0.f)).map (Value.int .u8)) rfl (by rw [List.length_map, HN.out]; omega) (rd_news HR5.out) (by simp [Value.oneCell']) (by omega) (by have := HFLB.out; unfold maxLen; omega) (by have := HFLB.out; omega) HLP5.out.1.size _ rfl (fun g cp w6 q1 q2 q3 q4 => ?_)
                                have HLP6 : Hid (LpA w w6 (.slice (some ⟨g, 0, none⟩) ((flB L).length + n) cp) u9 (flB L ++ bytesN (cutF p0.f)) L (L ++ [p])) := lpa_all HLP5.out (by rw [List.length_append, HN.out]) (by rw [List.map_append]; exact q1) q2 q3
                                have HC6 : Hid (w6.heap[X]? = some (.cells #[.int .i64 p.f.kind, .int .i64 p.f.fr, .slice p.va p.vn p.vc, .slice p.oa p.on p.oc, .int .i64 p.f.next] 51)) := ((cg_gb q2).2.2.2.2 X (Array.getElem?_eq_some_iff.1 HC5.out).1 HXO.out.1).trans HC5.out
                                clear q1 q2 q3 q4)
        obtain ⟨⟨x0, x1, x2, x3, x4⟩, _⟩ := cells5 HC6.out
        go_wp2_with (at_builtin
                     refine wpList_append_lies _ rfl _ _ 63 rfl w.heap.size 51 j0 _ 5 72 Try.underlying63 HJ.out.1 HJ.out.2.1 HJ.out.2.2.1 HJ.out.2.2.2 rfl (by decide) u9 L.length (L.flatMap encFE) rfl (own_alloc HLP6.out.2.2.1 _) ⟨w6.heap.size, 0, none⟩ 1 1 (encFE p) rfl rfl (World.news_of_block (cs := (encFE p).toArray) (t := 51) (fr := (0, 0)) (heap_alloc_new w6 _)) (encFE_one p) (by omega) (by unfold maxLen; omega) (by omega) (by have := HLP6.out.1.size; simp; omega) _ rfl (fun g2 cp2 w7 q1 q2 q3 q4 => ?_)
                     have HLP7 : Hid (LpA w w7 (.slice (some ⟨g, 0, none⟩) ((flB L).length + n) cp) (.slice (some ⟨g2, 0, none⟩) (L ++ [p]).length cp2) (flB L ++ bytesN (cutF p0.f)) (L ++ [p]) (L ++ [p])) := lpa_own HLP6.out q1 q2 q3
                     clear q1 q2 q3 q4)
        go_roundw
        case rel =>
          refine ⟨i + 1, L ++ [p], by go_num, by omega, by simp; omega, fun r hr => ?_, ?_⟩
          · rcases List.mem_append.1 hr with hr | hr
            · exact HGD.out r hr
            · rw [List.mem_singleton.1 hr]; exact HGOOD.out _ HFB.out rfl
          · have e : flB (L ++ [p]) = flB L ++ bytesN (cutF p0.f) := by simp [flB, HPF.out]
            rw [e]
            have := HLP7.out
            simpa using this
        case measure => simp [RowKit.intOf]; omega
    have hd : decide (i < fn ∧ i < 10) = false := by simp only [decide_eq_false_iff_not]; exact hin
    rw [hd]
    clear hd hin
    have hfb := flB_len L HGD.out
    have HFLB : Hid ((flB L).length ≤ 200000) := (show _ ≤ _ by omega)
    have HSRC : Hid (SrcAt wc a q cap 1 (ms.map (Value.int .u8))) := srcU8 (HRD.out _ HLP.out.1) HNN.out
    have hL10 : L.length ≤ 10 := by omega
    clear hfb hLi hi10
    go_upto_region 14 with (at_builtin
                            refine wpList_append_srcF rfl (.tmp 57) (.tmp 58) 53 rfl w.heap.size 5 i0 _ 1 1 Try.underlying53 HI.out.1 HI.out.2.1 HI.out.2.2.1 HI.out.2.2.2 rfl (by decide) u8 (flB L).length ((flB L).map (Value.int .u8)) rfl HLP.out.2.1 a q cap (ms.map (Value.int .u8)) rfl HSRC.out (by have := HFLB.out; unfold maxLen; omega) (by have := HFLB.out; omega) HLP.out.1.size (fun v8 W6 o6 g6 => ?_)
                            obtain ⟨hb6, oa, oc, rfl, hoc, hrf⟩ := lpa_end HLP.out g6
                            have HB6 : Hid (Below w.heap.size w W6) := hb6
                            have HOF : Hid (∀ W, Below W6.heap.size W6 W → RdFs W oa L.length L) := fun W h => hrf.later h
                            have ho6 : W6.ownsRow w.heap.size 5 1 v8 ((flB L).length + q) ((flB L ++ ms).map (Value.int .u8)) := by rw [List.map_append]; exact o6
                            obtain ⟨a6, c6, rfl, hc6, _, hr6, _⟩ := rd_own2 ho6
                            have HR6 : Hid (Rd .u8 W6 a6 ((flB L).length + q) (flB L ++ ms)) := hr6
                            have HC6 : Hid ((flB L).length + q ≤ c6) := hc6
                            clear o6 g6 hb6 hrf ho6 hr6 hc6)
    obtain ⟨ah, hah⟩ : ∃ r : Nat, bits .and .i64 sh 65535 = (r : Int) := ⟨(sh % 2 ^ 16).toNat, by rw [and_low sh 65535 16 (by omega) (by decide)]; omega⟩
    have HAH : Hid (bits .and .i64 sh 65535 = (ah : Int)) := hah
    clear hah
    obtain ⟨ll, hll⟩ : ∃ ll, ll = L.length := ⟨_, rfl⟩
    have HLL : Hid (L.length = ll) := hll.symm
    rw [← hll] at hoc hL10 HOF
    rw [← hll]
    clear hll HLP HSRC
    go_wp2
    go_loopw [8, 14] (fun x8 x14 wr => ∃ (t a8 n8 c8 : _) , x14 = .int .i64 ((t : Nat) : Int) ∧ t ≤ ll ∧ x8 = .slice a8 n8 c8 ∧ n8 ≤ c8 ∧ n8 ≤ 300000 ∧ Rd .u8 wr a8 n8 (flB (L.drop t) ++ ms) ∧ Byt (flB (L.drop t) ++ ms) ∧ Below W6.heap.size W6 wr) (fun _ x14 _ => 11 - (RowKit.intOf x14).toNat)
    case atStart => exact ⟨0, a6, _, c6, rfl, by omega, rfl, HC6.out, by have := HFLB.out; omega, HR6.out, (flB_byt L HGD.out).app HCB.out, Below.refl _ _⟩
    case round =>
      obtain ⟨t, a8, n8, c8, rfl, htl, rfl, hc8, hn8, hr8, hby8, hb8⟩ := hrel
      have HR8 : Hid (Rd .u8 wr a8 n8 (flB (L.drop t) ++ ms)) := hr8
      have HY8 : Hid (Byt (flB (L.drop t) ++ ms)) := hby8
      have HB8 : Hid (Below W6.heap.size W6 wr) := hb8
      clear hr8 hby8 hb8
      by_cases hlt : t < ll
      · have hmem : L.getD t fe0 ∈ L := getD_mem (by have := HLL.out; omega)
        have hcut8 := flB_at L t (by have := HLL.out; omega)
        obtain ⟨g, hg, hfb⟩ := HGD.out _ hmem
        obtain ⟨p, hp⟩ : ∃ p, p = L.getD t fe0 := ⟨_, rfl⟩
        rw [← hp] at hg hcut8
        have hRB : Hid (∃ R, flB (L.drop t) ++ ms = bytesN p.f ++ R ∧ flB (L.drop (t + 1)) ++ ms = R) := ⟨_, by rw [hcut8, List.append_assoc], rfl⟩
        obtain ⟨R, hR1, hR2⟩ := hRB
        rw [hR1] at HR8 HY8
        have HRR : Hid (flB (L.drop (t + 1)) ++ ms = R) := hR2
        clear hcut8 hmem hR1 hR2
        have hmn := bytes_min g
        have hmx := bytes_len g
        have HOS : Hid (ofN (bytesN p.f) = some p.f) := by have := of_back (cutF g) hfb (cut_ok g hfb) (body_len g); rw [← hg] at this; exact this
        have HCN : Hid (∀ k, k < (bytesN p.f).length → oaN ((bytesN p.f).take k) = ([], 0, false)) := by rw [hg]; exact cutC_none g hfb
        have HCM : Hid (∃ bo, oaN (bytesN p.f ++ R) = (bo, ((bytesN p.f).length : Int), true)) := ⟨_, by rw [hg]; exact cutC_more g R⟩
        have HLN : Hid (p.f.vec.length ≤ 100000 ∧ p.f.ops.length ≤ 100000) := by have := cutF_len g; rw [hg]; exact ⟨by omega, by omega⟩
        rw [← hg] at hmn hmx
        have HPE : Hid (L.getD t fe0 = p) := hp.symm
        clear hg hfb hp
        obtain ⟨n, hn⟩ : ∃ n, n = (bytesN p.f).length := ⟨_, rfl⟩
        rw [← hn] at hmn hmx HCN HCM
        have HNE : Hid ((bytesN p.f).length = n) := hn.symm
        have hnl : n ≤ n8 := by have := HR8.out.1; rw [List.length_append] at this; omega
        clear hn
        have HRT : Hid (∀ W, Below wr.heap.size wr W → Rd .u8 W a8 n (bytesN p.f)) := fun W h => by
          have := (HR8.out.later h).take n hnl
          rwa [List.take_append_of_le_length (Nat.le_of_eq HNE.out.symm), List.take_of_length_le (Nat.le_of_eq HNE.out)] at this
        obtain ⟨bo, hbo⟩ := HCM.out
        have HBO : Hid (oaN (bytesN p.f ++ R) = (bo, (n : Int), true)) := hbo
        clear hbo HCM
        obtain ⟨k, hk⟩ : ∃ k, k = ah % n := ⟨_, rfl⟩
        have hkn : k < n := by rw [hk]; exact Nat.mod_lt _ (by omega)
        have hrem : (ah : Int).tmod (n : Int) = (k : Int) := by rw [Int.tmod_eq_emod_of_nonneg (by omega), hk]; simp
        have hrem2 : (ah : Int) % (n : Int) = (k : Int) := by rw [hk]; simp
        have HREM : Hid ((ah : Int).tmod (n : Int) = (k : Int) ∧ (ah : Int) % (n : Int) = (k : Int) ∧ (n : Int) ≠ 0) := ⟨hrem, hrem2, by omega⟩
        clear hk hrem hrem2
        have hd1 : ¬ (n : Int) < 12 := by omega
        have hd2 : ¬ (n : Int) > (n8 : Int) := by omega
        have hct := fun W => cut_bytes a8 n8 c8 n (by omega) W
        go_upto_region 20 with (go_at_call 33
                                refine (frCut_any (bytesN p.f ++ R) a8 n8 c8 _ HY8.out HR8.out hc8 (by omega)).mono ?_
                                rw [HBO.out]
                                rintro e w9 ⟨rfl, hb⟩
                                have HB9 : Hid (Below wr.heap.size wr w9) := hb
                                clear hb)
        go_upto_region 21 with (go_at_call 34
                                refine (frOf_any (bytesN p.f) a8 n c8 _ (fun y hy => HY8.out y (List.mem_append_left _ hy)) (HRT.out _ HB9.out) (by omega) (by omega)).mono ?_
                                rintro e w10 ⟨hb, -, h1⟩
                                obtain ⟨v8, rfl, hat⟩ := h1 _ HOS.out
                                obtain ⟨pa, pn, pc, ra, rn, rc, rfl, _⟩ := id hat
                                have HB10 : Hid (Below w9.heap.size w9 w10) := hb
                                have HAT : Hid (FrAt w10 (.agg #[.int .i64 p.f.kind, .int .i64 p.f.fr, .slice pa pn pc, .slice ra rn rc, .int .i64 p.f.next]) p.f) := hat
                                clear hb h1 hat)
        clear hct
        obtain ⟨Y, hY⟩ : ∃ Y, Y = w10.heap.size := ⟨_, rfl⟩
        obtain ⟨W9, hW9⟩ : ∃ W9, W9 = w10.alloc (.cells #[.int .i64 p.f.kind, .int .i64 p.f.fr, .slice pa pn pc, .slice ra rn rc, .int .i64 p.f.next] 51) := ⟨_, rfl⟩
        have hc9 : W9.heap[Y]? = some (.cells #[.int .i64 p.f.kind, .int .i64 p.f.fr, .slice pa pn pc, .slice ra rn rc, .int .i64 p.f.next] 51) := by rw [hY, hW9]; exact heap_alloc_new w10 _
        have hb910 : Below w10.heap.size w10 W9 := by rw [hW9]; exact (Below.refl _ _).alloc (Nat.le_refl _) _
        have HAT9 : Hid (FrAt W9 (.agg #[.int .i64 p.f.kind, .int .i64 p.f.fr, .slice pa pn pc, .slice ra rn rc, .int .i64 p.f.next]) p.f) := HAT.out.later hb910
        have HBW9 : Hid (Below wr.heap.size wr W9) := (HB9.out.trans (HB10.out.mono HB9.out.size)).trans (hb910.mono (HB9.out.trans (HB10.out.mono HB9.out.size)).size)
        have HYC : Hid (∀ W, Below W9.heap.size W9 W → W.cell? ⟨Y, 0, none⟩ = some (.int .i64 p.f.kind) ∧ W.cell? ⟨Y, 1, none⟩ = some (.int .i64 p.f.fr) ∧ W.cell? ⟨Y, 2, none⟩ = some (.slice pa pn pc) ∧ W.cell? ⟨Y, 3, none⟩ = some (.slice ra rn rc) ∧ W.cell? ⟨Y, 4, none⟩ = some (.int .i64 p.f.next)) := fun W h => (cells5 ((h.block Y (Array.getElem?_eq_some_iff.1 hc9).1).trans hc9)).1
        obtain ⟨bo2, oo2, hoa, _, _⟩ := (HOF.out W9 (HB8.out.trans (HBW9.out.mono HB8.out.size))).at t hlt
        have HOC : Hid (∀ W, Below W9.heap.size W9 W → W.cell? ⟨bo2, oo2 + t * 5, none⟩ = some (.int .i64 p.f.kind) ∧ W.cell? ⟨bo2, oo2 + t * 5 + 1, none⟩ = some (.int .i64 p.f.fr) ∧ W.cell? ⟨bo2, oo2 + t * 5 + 2, none⟩ = some (.slice p.va p.vn p.vc) ∧ W.cell? ⟨bo2, oo2 + t * 5 + 3, none⟩ = some (.slice p.oa p.on p.oc) ∧ W.cell? ⟨bo2, oo2 + t * 5 + 4, none⟩ = some (.int .i64 p.f.next) ∧ FrAt W p.val p.f) := fun W h => by
          obtain ⟨b', o', e', hh, hr⟩ := (HOF.out W ((HB8.out.trans (HBW9.out.mono HB8.out.size)).trans (h.mono (HB8.out.trans (HBW9.out.mono HB8.out.size)).size))).at t hlt
          rw [hoa] at e'; cases e'
          rw [HPE.out] at hh hr
          exact ⟨hh.1, hh.2.1, hh.2.2.1, hh.2.2.2.1, hh.2.2.2.2, hr.at⟩
        subst hoa
        rw [← hY, ← hW9]
        clear hc9 hb910 hY hW9
        have hlto : (t : Int) < (ll : Int) := by omega
        refine wp_region_noPanic ?_
        refine wp_region_held_drew (S := (fun w' => w'.cell? ⟨Y, 0, none⟩ = some (.int .i64 p.f.kind) ∧ w'.cell? ⟨Y, 1, none⟩ = some (.int .i64 p.f.fr) ∧ w'.cell? ⟨Y, 2, none⟩ = some (.slice pa pn pc) ∧ w'.cell? ⟨Y, 3, none⟩ = some (.slice ra rn rc) ∧ w'.cell? ⟨Y, 4, none⟩ = some (.int .i64 p.f.next) ∧ w'.cell? ⟨bo2, oo2 + t * 5, none⟩ = some (.int .i64 p.f.kind) ∧ w'.cell? ⟨bo2, oo2 + t * 5 + 1, none⟩ = some (.int .i64 p.f.fr) ∧ w'.cell? ⟨bo2, oo2 + t * 5 + 2, none⟩ = some (.slice p.va p.vn p.vc) ∧ w'.cell? ⟨bo2, oo2 + t * 5 + 3, none⟩ = some (.slice p.oa p.on p.oc) ∧ w'.cell? ⟨bo2, oo2 + t * 5 + 4, none⟩ = some (.int .i64 p.f.next))) (by kernel_rfl) ((by obtain ⟨h0, h1, h2, h3, h4⟩ := HYC.out _ (Below.refl _ _).drew; obtain ⟨k0, k1, k2, k3, k4, _⟩ := HOC.out _ (Below.refl _ _).drew; exact ⟨h0, h1, h2, h3, h4, k0, k1, k2, k3, k4⟩)) (fun hHeld => ?_)
        refine wpAnyH_take (i := 0) (v := ?_) rfl (by kernel_rfl) (by kernel_rfl) (by kernel_rfl) (fun _ _ _ h => h) (Or.inl ⟨by rfl, ?_⟩) (by assumption) ?_
        rotate_left
        · intro W' hSw; obtain ⟨s0, s1, s2, s3, s4, s5, s6, s7, s8, s9⟩ := hSw; go_simp; try with_reducible rfl
        try simp only [Act.put, List.getElem_toArray, List.getElem_cons_succ, List.getElem_cons_zero, List.setIfInBounds_toArray, List.set_cons_zero, List.set_cons_succ]
        refine wpAnyH_take (i := 1) (v := ?_) rfl (by kernel_rfl) (by kernel_rfl) (by kernel_rfl) (fun _ _ _ h => h) (Or.inl ⟨by rfl, ?_⟩) (by assumption) ?_
        rotate_left
        · intro W' hSw; obtain ⟨s0, s1, s2, s3, s4, s5, s6, s7, s8, s9⟩ := hSw; go_simp; try with_reducible rfl
        try simp only [Act.put, List.getElem_toArray, List.getElem_cons_succ, List.getElem_cons_zero, List.setIfInBounds_toArray, List.set_cons_zero, List.set_cons_succ]
        refine wpAnyH_take (i := 2) (v := ?_) rfl (by kernel_rfl) (by kernel_rfl) (by kernel_rfl) (fun _ _ _ h => h) (Or.inl ⟨by rfl, ?_⟩) (by assumption) ?_
        rotate_left
        · intro W' hSw; obtain ⟨s0, s1, s2, s3, s4, s5, s6, s7, s8, s9⟩ := hSw; go_simp; try with_reducible rfl
        try simp only [Act.put, List.getElem_toArray, List.getElem_cons_succ, List.getElem_cons_zero, List.setIfInBounds_toArray, List.set_cons_zero, List.set_cons_succ]
        refine wpAnyH_take (i := 3) (v := ?_) rfl (by kernel_rfl) (by kernel_rfl) (by kernel_rfl) (fun _ _ _ h => h) (Or.inl ⟨by rfl, ?_⟩) (by assumption) ?_
        rotate_left
        · intro W' hSw; obtain ⟨s0, s1, s2, s3, s4, s5, s6, s7, s8, s9⟩ := hSw; go_simp; try with_reducible rfl
        try simp only [Act.put, List.getElem_toArray, List.getElem_cons_succ, List.getElem_cons_zero, List.setIfInBounds_toArray, List.set_cons_zero, List.set_cons_succ]
        refine wpAnyH_take (i := 4) (v := ?_) rfl (by kernel_rfl) (by kernel_rfl) (by kernel_rfl) (fun _ _ _ h => h) (Or.inl ⟨by rfl, ?_⟩) (by assumption) ?_
        rotate_left
        · intro W' hSw; obtain ⟨s0, s1, s2, s3, s4, s5, s6, s7, s8, s9⟩ := hSw; go_simp; try with_reducible rfl
        try simp only [Act.put, List.getElem_toArray, List.getElem_cons_succ, List.getElem_cons_zero, List.setIfInBounds_toArray, List.set_cons_zero, List.set_cons_succ]
        refine wpAnyH_ready (rs := [5]) (by kernel_rfl) (by simp) ?_
        refine AllReadyH.cons rfl (fun KK hK => ?_) AllReadyH.nil
        go_simp
        go_wp2_with (go_at_call 28
                     refine (refSame_any p.f p.f _ _ _ (HAT9.out.later (Below.refl _ _).drew) ((HOC.out _ (Below.refl _ _).drew).2.2.2.2.2) HLN.out.1 HLN.out.2 true (by simp)).mono ?_
                     rintro e wx ⟨rfl, hb⟩
                     have HBX : Hid (Below W9.heap.size W9 wx) := (Below.refl _ _).drew.trans hb
                     clear hb)
        refine hK.out _ _ (by obtain ⟨h0, h1, h2, h3, h4⟩ := HYC.out _ HBX.out; obtain ⟨k0, k1, k2, k3, k4, _⟩ := HOC.out _ HBX.out; exact ⟨h0, h1, h2, h3, h4, k0, k1, k2, k3, k4⟩) (fun hHeld => ?_)
        clear hK KK
        try simp only [Act.put, List.getElem_toArray, List.getElem_cons_succ, List.getElem_cons_zero, List.setIfInBounds_toArray, List.set_cons_zero, List.set_cons_succ]
        refine wpAnyH_take (i := 6) (v := ?_) rfl (by kernel_rfl) (by kernel_rfl) (by kernel_rfl) (fun _ _ _ h => h) (Or.inl ⟨by rfl, ?_⟩) (by assumption) ?_
        rotate_left
        · intro W' hSw; obtain ⟨s0, s1, s2, s3, s4, s5, s6, s7, s8, s9⟩ := hSw; go_simp; try with_reducible rfl
        try simp only [Act.put, List.getElem_toArray, List.getElem_cons_succ, List.getElem_cons_zero, List.setIfInBounds_toArray, List.set_cons_zero, List.set_cons_succ]
        refine wpAnyH_done (by kernel_rfl) ?_ _
        refine NoPanic.normal ?_
        clear hHeld
        go_upto_region 22 with fail
        obtain ⟨m, hm⟩ : ∃ m : Nat, m = n - 1 - k := ⟨_, rfl⟩
        have hmi : (n : Int) - 1 - (k : Int) = (m : Int) := by omega
        have hmn2 : m < n := by omega
        have hct2 : ∀ W, (Instr.slice 53 (.slice a8 n8 c8) none (some (.int .i64 ((n : Int) - 1 - (k : Int)))) none).run Try.prog W = .ok (.slice a8 m c8) W := fun W => by rw [hmi]; exact cut_bytes a8 n8 c8 m (by omega) W
        clear hm hmi
        have hah := HAH.out
        obtain ⟨hrem, hrem2, hn0⟩ := HREM.out
        have HRX : Hid (Rd .u8 wx a8 m ((bytesN p.f).take m) ∧ Byt ((bytesN p.f).take m) ∧ oaN ((bytesN p.f).take m) = ([], 0, false)) := ⟨(HRT.out _ (HBW9.out.trans (HBX.out.mono HBW9.out.size))).take m (by omega), fun y hy => HY8.out y (List.mem_append_left _ (List.mem_of_mem_take hy)), HCN.out m hmn2⟩
        go_upto_region 23 with (go_at_call 33
                                refine (frCut_any ((bytesN p.f).take m) a8 m c8 _ HRX.out.2.1 HRX.out.1 (by omega) (by omega)).mono ?_
                                rw [HRX.out.2.2]
                                rintro e w13 ⟨rfl, hb⟩
                                have HB13 : Hid (Below wx.heap.size wx w13) := hb
                                clear hb)
        clear hah hrem hrem2 hn0 hct2
        have HBT : Hid (RowKit.Below wr.heap.size wr w13) := (HBW9.out.trans (HBX.out.mono HBW9.out.size)).trans (HB13.out.mono (HBW9.out.trans (HBX.out.mono HBW9.out.size)).size)
        obtain ⟨a14, hctl, hrd14, _⟩ := cut_from_at (HR8.out.later HBT.out) n hnl hc8
        rw [List.drop_left' HNE.out] at hrd14
        have HR14 : Hid (Rd .u8 w13 a14 (n8 - n) R) := hrd14
        clear hrd14
        go_wp2_with fail
        go_roundw
        case rel => exact ⟨t + 1, a14, n8 - n, c8 - n, by go_num, by omega, rfl, by omega, by omega, by rw [HRR.out]; exact HR14.out, by rw [HRR.out]; exact fun y hy => HY8.out y (List.mem_append_right _ hy), HB8.out.trans (HBT.out.mono HB8.out.size)⟩
        case measure => simp [RowKit.intOf]; omega
      have htz : flB (L.drop t) ++ ms = ms := by rw [List.drop_eq_nil_of_le (by have := HLL.out; omega)]; rfl
      rw [htz] at HR8 HY8
      clear htz
      have HBW : Hid (Below w.heap.size w wr) := HB6.out.trans (HB8.out.mono HB6.out.size)
      have hc1 := conv_str (cap := c8) HR8.out
      have hc2 := conv_str (cap := cap) (HRD.out _ HBW.out)
      have hse : ((strOfNums ms).toList == (strOfNums ms).toList) = true := by simp
      go_wp2_with fail
      go_ret
      exact ⟨rfl, HBW.out⟩
end Go.Proofs.Ytcbnmahbdcjamaa
