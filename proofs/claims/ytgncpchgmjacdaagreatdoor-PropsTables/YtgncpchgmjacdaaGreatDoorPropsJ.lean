/- The walk of Parse: the ranges of a text, or the first wrong line and what is wrong with it. -/
import Derived.Test.YtgncpchgmjacdaaGreatDoorPropsI
namespace Go.Proofs.YtgncpchgmjacdaaGreatDoor
open Go.RowKit
set_option linter.unusedVariables false

/-- The lines of a text as they are cut: one more behind the last line feed. -/
def lcAt (cur : List Int) : List Int → List (List Int)
  | [] => [cur]
  | c :: r => if c = 10 then cur :: lcAt [] r else lcAt (cur ++ [c]) r
def linesC (s : List Int) : List (List Int) := lcAt [] s
theorem lcAt_one : (l : List Int) → (cur : List Int) → (∀ c ∈ l, c ≠ 10) → lcAt cur l = [cur ++ l]
  | [], cur, _ => by simp [lcAt]
  | c :: l, cur, h => by
    have hc : c ≠ 10 := h c (by simp)
    simp only [lcAt, hc, if_false]
    rw [lcAt_one l (cur ++ [c]) (fun d hd => h d (by simp [hd]))]
    simp
theorem lcAt_nl : (l r : List Int) → (cur : List Int) → (∀ c ∈ l, c ≠ 10) → lcAt cur (l ++ 10 :: r) = (cur ++ l) :: lcAt [] r
  | [], r, cur, _ => by simp [lcAt]
  | c :: l, r, cur, h => by
    have hc : c ≠ 10 := h c (by simp)
    simp only [List.cons_append, lcAt, hc, if_false]
    rw [lcAt_nl l r (cur ++ [c]) (fun d hd => h d (by simp [hd]))]
    simp
theorem lcAt_lines : (s : List Int) → (cur : List Int) → lcAt cur s = linesAt cur s ∨ lcAt cur s = linesAt cur s ++ [[]]
  | [], cur => by
    by_cases h : cur = []
    · right; simp [lcAt, linesAt, h]
    · left; simp [lcAt, linesAt, h]
  | c :: s, cur => by
    by_cases h : c = 10
    · simp only [lcAt, linesAt, h, if_true]
      rcases lcAt_lines s [] with e | e
      · left; rw [e]
      · right; rw [e]; rfl
    · simp only [lcAt, linesAt, h, if_false]
      exact lcAt_lines s (cur ++ [c])
theorem parse_lc (s : List Int) : parseL 0 [] (linesC s) = parseT s := by
  unfold parseT linesOf linesC
  rcases lcAt_lines s [] with e | e
  · rw [e]
  · rw [e, parseL_append]
    cases h : parseL 0 [] (linesAt [] s) with
    | inl out => simp [andThen, parseL, stepOf, noNote, trm, ltr, rtr]
    | inr e => rfl
/-- Where Parse stands. -/
def PaAt (bs : List Int) (k : Nat) (out : List Rg) (rest : List Int) (more : Bool) : Prop :=
  if more = true then parseT bs = parseL k out (linesC rest) ∧ k + rest.length ≤ bs.length else parseT bs = .inl out ∧ k ≤ bs.length + 1
theorem paAt_step (bs : List Int) (k : Nat) (out : List Rg) (rest : List Int) (h : PaAt bs k out rest true) :
    (∀ e, stepOf out (cut1 10 rest).1 = some (.inl e) → parseT bs = .inr (k + 1, e)) ∧
    (∀ out', (stepOf out (cut1 10 rest).1 = none ∧ out' = out) ∨ (∃ x, stepOf out (cut1 10 rest).1 = some (.inr x) ∧ out' = ins x out) → PaAt bs (k + 1) out' (cut1 10 rest).2.1 (cut1 10 rest).2.2) := by
  have h' : parseT bs = parseL k out (linesC rest) ∧ k + rest.length ≤ bs.length := h
  obtain ⟨h1, h2⟩ := h'
  rcases cut1_cases 10 rest with ⟨e, hn⟩ | ⟨l, r, e0, hn, e⟩
  · have hl : linesC rest = [rest] := by have := lcAt_one rest [] hn; rw [List.nil_append] at this; exact this
    rw [hl] at h1
    rw [e]
    refine ⟨fun en he => ?_, fun out' ho => ?_⟩
    · simp only [] at he
      rw [h1, parseL, he]
    · show PaAt bs (k + 1) out' [] false
      refine (show parseT bs = .inl out' ∧ k + 1 ≤ bs.length + 1 from ⟨?_, by omega⟩)
      simp only [] at ho
      rcases ho with ⟨ho, rfl⟩ | ⟨x, ho, rfl⟩
      · rw [h1, parseL, ho]; rfl
      · rw [h1, parseL, ho]; rfl
  · have hl : linesC rest = l :: linesC r := by have := lcAt_nl l r [] hn; rw [List.nil_append] at this; rw [e0]; exact this
    rw [hl] at h1
    rw [e]
    have hlen : rest.length = l.length + (r.length + 1) := by rw [e0]; simp
    refine ⟨fun en he => ?_, fun out' ho => ?_⟩
    · simp only [] at he
      rw [h1, parseL, he]
    · show PaAt bs (k + 1) out' r true
      refine (show parseT bs = parseL (k + 1) out' (linesC r) ∧ k + 1 + r.length ≤ bs.length from ⟨?_, by omega⟩)
      simp only [] at ho
      rcases ho with ⟨ho, rfl⟩ | ⟨x, ho, rfl⟩
      · rw [h1, parseL, ho]
      · rw [h1, parseL, ho]
theorem paAt_start (bs : List Int) : PaAt bs 0 [] bs true := ⟨(parse_lc bs).symm, by omega⟩
theorem paAt_k (bs : List Int) (k : Nat) (out : List Rg) (rest : List Int) (more : Bool) (h : PaAt bs k out rest more) : k ≤ bs.length + 1 ∧ (more = true → k ≤ bs.length) := by
  unfold PaAt at h
  cases more with
  | true => simp at h; exact ⟨by omega, fun _ => by omega⟩
  | false => simp at h; exact ⟨h.2, fun h => by cases h⟩
theorem step_cases (out : List Rg) (l : List Int) : stepOf out l = none ∨ (∃ e, stepOf out l = some (.inl e)) ∨ ∃ x, stepOf out l = some (.inr x) := by
  rcases stepOf out l with _ | e | x
  · exact .inl rfl
  · exact .inr (.inl ⟨e, rfl⟩)
  · exact .inr (.inr ⟨x, rfl⟩)
theorem step_ins (out : List Rg) (l : List Int) (x : Rg) (ha : Asc out) (h : stepOf out l = some (.inr x)) : Asc (ins x out) ∧ (ins x out).length ≤ 2000 := by
  unfold stepOf at h
  split at h
  · cases h
  · split at h
    · cases h
    · split at h
      · cases h
      · split at h
        · cases h
        · split at h
          · cases h
          · cases h
            refine ⟨asc_ins _ (by omega) out ha (Bool.eq_false_iff.2 (by assumption)), ?_⟩
            rw [len_ins]
            omega
theorem step_err (out : List Rg) (l : List Int) (e : Int) (h : stepOf out l = some (.inl e)) : 1 ≤ e ∧ e ≤ 8 := by
  unfold stepOf at h
  repeat' split at h
  all_goals cases h
  all_goals omega
/-- An error of Parse: it wraps a fault, which has the line and the number. -/
def ErrAt (w : World) (ev : Value) (ln : Nat) (en : Int) : Prop :=
  ∃ p q, ev = .iface 82 (.pointer (some ⟨p, 0, none⟩)) ∧ w.heap[p]? = some (.cells #[.pointer (some ⟨q, 0, none⟩)] 87) ∧ w.heap[q]? = some (.cells #[.int .i64 ln, .iface 28 (.int .i64 en)] 85)
theorem ErrAt.later {w w' : World} {ev : Value} {ln : Nat} {en : Int} (h : ErrAt w ev ln en) (hb : Below w.heap.size w w') : ErrAt w' ev ln en := by
  obtain ⟨p, q, h1, h2, h3⟩ := h
  exact ⟨p, q, h1, by rw [hb.block p (Array.getElem?_eq_some_iff.1 h2).1]; exact h2, by rw [hb.block q (Array.getElem?_eq_some_iff.1 h3).1]; exact h3⟩
/-- What Parse leaves. -/
def PaPost (bs : List Int) (w : World) (e : Ending) (w' : World) : Prop :=
  Below w.heap.size w w' ∧ ((∃ out v, parseT bs = .inl out ∧ e = .returned (.tuple #[v, .nilIface]) ∧ w'.ownsRow w.heap.size 39 3 v out.length (flatR out)) ∨
    ∃ ln en ev, parseT bs = .inr (ln, en) ∧ e = .returned (.tuple #[.slice none 0 0, ev]) ∧ ErrAt w' ev ln en ∧ 1 ≤ ln ∧ ln ≤ bs.length + 1 ∧ 1 ≤ en ∧ en ≤ 8)

set_option maxHeartbeats 4000000 in
theorem parse_any (bs : List Int) (w : World) (hr : ∀ y ∈ bs, 0 ≤ y ∧ y ≤ 255) (hl : bs.length < 4294967000) (hg : Gl w) :
    Calls Tryz.prog 14 #[.string (strOfNums bs)] w (PaPost bs w) := by
  have HR : Hid (∀ y ∈ bs, 0 ≤ y ∧ y ≤ 255) := hr
  have HG : Hid (Gl w) := hg
  clear hr hg
  go_enter Tryz.func14, Tryz.ntmps14
  go_wp2
  go_loopw [4, 5, 6, 7] (fun x4 x5 x6 x7 wr => ∃ (k : Nat) (out : List Rg) (rest : List Int) (more : Bool), x5 = .string (strOfNums rest) ∧ x6 = .bool more ∧ x7 = .int .i64 ((k : Int) + 1) ∧ PaAt bs k out rest more ∧ Asc out ∧ out.length ≤ 2000 ∧
    (∀ y ∈ rest, 0 ≤ y ∧ y ≤ 255) ∧ rest.length ≤ bs.length ∧ wr.ownsRow w.heap.size 39 3 x4 out.length (flatR out) ∧ Below w.heap.size w wr) (fun _ _ _ x7 _ => bs.length + 3 - (intOf x7).toNat)
  case atStart => exact ⟨0, [], bs, true, rfl, rfl, rfl, paAt_start bs, trivial, by simp, HR.out, Nat.le_refl _, World.ownsRow_nil _ _ _ _, Below.refl _ _⟩
  case round =>
    obtain ⟨k, out, rest, more, hx5, hx6, hx7, hat, hasc, hol, hrr, hrl, hown, hbel⟩ := hrel
    subst hx5 hx6 hx7
    have HAT : Hid (PaAt bs k out rest more) := hat
    have HAS : Hid (Asc out) := hasc
    have HOL : Hid (out.length ≤ 2000) := hol
    have HRR : Hid (∀ y ∈ rest, 0 ≤ y ∧ y ≤ 255) := hrr
    have HRL : Hid (rest.length ≤ bs.length) := hrl
    have HB : Hid (Below w.heap.size w wr) := hbel
    have hk := paAt_k bs k out rest more hat
    have hk1 : k ≤ bs.length + 1 := hk.1
    have HK2 : Hid (more = true → k ≤ bs.length) := hk.2
    have HO : Hid (wr.ownsRow w.heap.size 39 3 u4 out.length (flatR out)) := hown
    clear hat hasc hol hrr hrl hown hbel hk
    cases more with
    | false =>
      have HT : Hid (parseT bs = .inl out) := HAT.out.1
      go_wp2
      go_ret2
      exact ⟨HB.out, .inl ⟨out, _, HT.out, rfl, HO.out⟩⟩
    | true =>
      obtain ⟨cl, cr, cm, hcut⟩ : ∃ a b c, cut1 10 rest = (a, b, c) := ⟨_, _, _, rfl⟩
      obtain ⟨s1, s2⟩ := paAt_step bs k out rest HAT.out
      obtain ⟨g1, g2, g3, g4⟩ := cut1_rng 10 rest HRR.out
      rw [hcut] at s1 s2 g1 g2 g3 g4
      simp only [] at s1 s2 g3 g4
      have HS1 : Hid (∀ e, stepOf out cl = some (.inl e) → parseT bs = .inr (k + 1, e)) := s1
      have HS2 : Hid (∀ out', (stepOf out cl = none ∧ out' = out) ∨ (∃ x, stepOf out cl = some (.inr x) ∧ out' = ins x out) → PaAt bs (k + 1) out' cr cm) := s2
      have HG1 : Hid (∀ y ∈ cl, 0 ≤ y ∧ y ≤ 255) := g1
      have HG2 : Hid (∀ y ∈ cr, 0 ≤ y ∧ y ≤ 255) := g2
      have HG4 : Hid (cr.length ≤ bs.length) := Nat.le_trans g4 HRL.out
      have HG3 : Hid (cl.length < 4294967281) := by show cl.length < _; have := HRL.out; omega
      have HRS : Hid (rest.length < 4294967281) := by show rest.length < _; have := HRL.out; omega
      have HCUT : Hid (cut1 10 rest = (cl, cr, cm)) := hcut
      have hkb : k ≤ bs.length := HK2.out rfl
      clear s1 s2 g1 g2 g3 g4 hcut hk1
      go_wp2_with fail
      refine (cut_one 10 (by omega) rest _ HRR.out HRS.out (HG.out.later HB.out)).mono ?_
      rw [show ((10 : Nat) : Int) = 10 from rfl, HCUT.out]
      rintro e w1 ⟨rfl, hb1⟩
      have HB1 : Hid (Below w.heap.size w w1) := HB.out.trans (hb1.mono HB.out.size)
      have HO1 : Hid (w1.ownsRow w.heap.size 39 3 u4 out.length (flatR out)) := ownR_later HO.out hb1
      clear hb1
      go_wp2_with fail
      refine (addLine_any out cl w.heap.size u4 _ HAS.out HOL.out HO1.out HB1.out.size HG1.out HG3.out (HG.out.later HB1.out)).mono ?_
      rcases step_cases out cl with hs | ⟨en, hs⟩ | ⟨x, hs⟩
      · have HNX : Hid (PaAt bs (k + 1) out cr cm) := HS2.out out (.inl ⟨hs, rfl⟩)
        rw [hs]
        rintro e w2 ⟨hb2, rfl, ho2⟩
        have HB2 : Hid (Below w.heap.size w w2) := HB1.out.trans hb2
        have HO2 : Hid (w2.ownsRow w.heap.size 39 3 u4 out.length (flatR out)) := ho2
        clear hb2 ho2 hs
        go_wp2
        go_roundw
        case rel => exact ⟨k + 1, out, cr, cm, rfl, rfl, by go_num, HNX.out, HAS.out, HOL.out, HG2.out, HG4.out, HO2.out, HB2.out⟩
        case measure => simp [intOf]; omega
      · have HPT : Hid (parseT bs = .inr (k + 1, en)) := HS1.out en hs
        have hen := step_err out cl en hs
        have HEN : Hid (1 ≤ en ∧ en ≤ 8) := hen
        rw [hs]
        rintro e w2 ⟨hb2, rfl⟩
        have HB2 : Hid (Below w.heap.size w w2) := HB1.out.trans hb2
        have hne : ¬ en = 0 := by omega
        clear hb2 hs hen
        go_wp2
        go_ret2
        refine ⟨(HB2.out.alloc HB2.out.size _).alloc (by simp; have := HB2.out.size; omega) _, .inr ⟨k + 1, en, _, HPT.out, rfl, ⟨w2.heap.size + 1, w2.heap.size, rfl, ?_, ?_⟩, by omega, by omega, HEN.out.1, HEN.out.2⟩⟩
        · have := heap_alloc_new (w2.alloc (.cells #[.int .i64 ((k : Int) + 1), .iface 28 (.int .i64 en)] 85)) (.cells #[.pointer (some ⟨w2.heap.size, 0, none⟩)] 87)
          simpa using this
        · rw [Below.heap_alloc _ _ _ (by simp)]
          exact heap_alloc_new w2 _
      · have HNX : Hid (PaAt bs (k + 1) (ins x out) cr cm) := HS2.out (ins x out) (.inr ⟨x, hs, rfl⟩)
        obtain ⟨i1, i2⟩ := step_ins out cl x HAS.out hs
        have HAS2 : Hid (Asc (ins x out)) := i1
        have HOL2 : Hid ((ins x out).length ≤ 2000) := i2
        rw [hs]
        rintro e w2 ⟨hb2, v', rfl, ho2⟩
        have HB2 : Hid (Below w.heap.size w w2) := HB1.out.trans hb2
        have HO2 : Hid (w2.ownsRow w.heap.size 39 3 v' (ins x out).length (flatR (ins x out))) := ho2
        clear hb2 ho2 hs i1 i2
        go_wp2
        go_roundw
        case rel => exact ⟨k + 1, ins x out, cr, cm, rfl, rfl, by go_num, HNX.out, HAS2.out, HOL2.out, HG2.out, HG4.out, HO2.out, HB2.out⟩
        case measure => simp [intOf]; omega
end Go.Proofs.YtgncpchgmjacdaaGreatDoor
