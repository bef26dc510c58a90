/- Walks of lay and Encode: the bytes of characters, in new memory. -/
import Derived.Test.YtdoflmgdmcmmfaaUtfA
import Derived.Carry
import Derived.Deep.AppendLies
namespace Go.Proofs.Ytdoflmgdmcmmfaa
open Go.RowKit
set_option linter.unusedVariables false

theorem info_u8 : (Try.prog.info? 5).map (fun i => (i.zero, i.size, i.bytes)) = some (some (.int .u8 0), 1, 1) := by kernel_rfl

theorem news_pre {w : World} {B : Nat} {cs : Array Value} {t : TypeId} {fr : Nat × Nat} {news rest : List Value} (hb : w.heap[B]? = some (.cells cs t fr)) (hcs : cs.toList = news ++ rest) :
    ∀ j u, news[j]? = some u → w.cell? ((⟨B, 0, none⟩ : Addr).add j) = some u := fun j u hu =>
  World.news_of_block hb j u (by rw [hcs, List.getElem?_append_left (by rcases Nat.lt_or_ge j news.length with h | h <;> first | exact h | (simp [List.getElem?_eq_none h] at hu))]; exact hu)
theorem u8_or0 (c : Int) (h0 : 0 ≤ c) (h1 : c ≤ 127) : bits .or .u8 0 c = c := by
  rw [u8_or 0 c (by omega) (by omega) h0 (by omega)]; simp; omega

theorem lay_1 (B : Nat) (v : Value) (n : Nat) (xs : List Value) (c : Int) (w : World) (h0 : 0 ≤ c) (h1 : c ≤ 127) (hown : w.ownsRow B 5 1 v n xs) (hn : n ≤ 1000000000000) (hB : B ≤ w.heap.size) :
    Calls Try.prog 21 #[v, .int .i32 c, .int .i64 1] w fun e w' => ∃ v', e = .returned v' ∧ w'.ownsRow B 5 1 v' (n + 1) (xs ++ [.int .u8 c]) ∧ Below B w w' := by
  obtain ⟨i0, hi, hz0, hz1, hz2⟩ := info_parts info_u8
  have HO : Hid (w.ownsRow B 5 1 v n xs) := hown
  clear hown
  have mk1 : mk 1 = 0 := rfl
  have hor := u8_or0 c (by omega) (by omega)
  go_enter Try.func21, Try.ntmps21
  go_wp2_with (first | (go_at_call 28; refine (mark_any _ _).mono ?_; rintro e w' ⟨rfl, rfl⟩) | (go_at_call 27; refine (later_any _ _ (by omega) (by omega)).mono ?_; rintro e w' ⟨rfl, rfl⟩) | (at_builtin; refine wpList_append_own _ rfl (.tmp 36) (.tmp 38) 23 rfl B 5 i0 (.int .u8 0) 1 1 Try.underlying23 hi hz0 hz1 hz2 rfl (by decide) v n xs rfl (HO.out.alloc _) ⟨w.heap.size, 0, none⟩ 1 4 [.int .u8 c] rfl rfl (news_pre (heap_alloc_new w _) rfl) ?hone ?h63 ?hby ?hbase ?_))
  case hone => simp [Value.oneCell']
  case h63 => unfold maxLen; omega
  case hby => omega
  case hbase => simp; omega
  intro v' w1 hown' hgrow _
  have HB : Hid (Below B w w1) := ((Below.refl B w).alloc hB _).grown hgrow (by simp; omega) (fun k hk => (HO.out.lt k hk).1)
  have HO1 : Hid (w1.ownsRow B 5 1 v' (n + 1) (xs ++ [.int .u8 c])) := hown'
  clear hown' hgrow
  go_wp2
  go_ret
  exact ⟨v', rfl, HO1.out, HB.out⟩
theorem lay_2 (B : Nat) (v : Value) (n : Nat) (xs : List Value) (c : Int) (w : World) (h0 : 128 ≤ c) (h1 : c ≤ 2047) (hown : w.ownsRow B 5 1 v n xs) (hn : n ≤ 1000000000000) (hB : B ≤ w.heap.size) :
    Calls Try.prog 21 #[v, .int .i32 c, .int .i64 2] w fun e w' => ∃ v', e = .returned v' ∧ w'.ownsRow B 5 1 v' (n + 2) (xs ++ [.int .u8 (192 + c / 64), .int .u8 (128 + c % 64)]) ∧ Below B w w' := by
  obtain ⟨i0, hi, hz0, hz1, hz2⟩ := info_parts info_u8
  have HO : Hid (w.ownsRow B 5 1 v n xs) := hown
  clear hown
  have mk2 : mk 2 = 192 := rfl
  have hor : True := trivial
  go_enter Try.func21, Try.ntmps21
  go_wp2_with (first | (go_at_call 28; refine (mark_any _ _).mono ?_; rintro e w' ⟨rfl, rfl⟩) | (go_at_call 27; refine (later_any _ _ (by omega) (by omega)).mono ?_; rintro e w' ⟨rfl, rfl⟩) | (at_builtin; refine wpList_append_own _ rfl (.tmp 36) (.tmp 38) 23 rfl B 5 i0 (.int .u8 0) 1 1 Try.underlying23 hi hz0 hz1 hz2 rfl (by decide) v n xs rfl (HO.out.alloc _) ⟨w.heap.size, 0, none⟩ 2 4 [.int .u8 (192 + c / 64), .int .u8 (128 + c % 64)] rfl rfl (news_pre (heap_alloc_new w _) rfl) ?hone ?h63 ?hby ?hbase ?_))
  case hone => simp [Value.oneCell']
  case h63 => unfold maxLen; omega
  case hby => omega
  case hbase => simp; omega
  intro v' w1 hown' hgrow _
  have HB : Hid (Below B w w1) := ((Below.refl B w).alloc hB _).grown hgrow (by simp; omega) (fun k hk => (HO.out.lt k hk).1)
  have HO1 : Hid (w1.ownsRow B 5 1 v' (n + 2) (xs ++ [.int .u8 (192 + c / 64), .int .u8 (128 + c % 64)])) := hown'
  clear hown' hgrow
  go_wp2
  go_ret
  exact ⟨v', rfl, HO1.out, HB.out⟩
theorem lay_3 (B : Nat) (v : Value) (n : Nat) (xs : List Value) (c : Int) (w : World) (h0 : 2048 ≤ c) (h1 : c ≤ 65535) (hown : w.ownsRow B 5 1 v n xs) (hn : n ≤ 1000000000000) (hB : B ≤ w.heap.size) :
    Calls Try.prog 21 #[v, .int .i32 c, .int .i64 3] w fun e w' => ∃ v', e = .returned v' ∧ w'.ownsRow B 5 1 v' (n + 3) (xs ++ [.int .u8 (224 + c / 64 / 64), .int .u8 (128 + c / 64 % 64), .int .u8 (128 + c % 64)]) ∧ Below B w w' := by
  obtain ⟨i0, hi, hz0, hz1, hz2⟩ := info_parts info_u8
  have HO : Hid (w.ownsRow B 5 1 v n xs) := hown
  clear hown
  have mk3 : mk 3 = 224 := rfl
  have hor : True := trivial
  go_enter Try.func21, Try.ntmps21
  go_wp2_with (first | (go_at_call 28; refine (mark_any _ _).mono ?_; rintro e w' ⟨rfl, rfl⟩) | (go_at_call 27; refine (later_any _ _ (by omega) (by omega)).mono ?_; rintro e w' ⟨rfl, rfl⟩) | (at_builtin; refine wpList_append_own _ rfl (.tmp 36) (.tmp 38) 23 rfl B 5 i0 (.int .u8 0) 1 1 Try.underlying23 hi hz0 hz1 hz2 rfl (by decide) v n xs rfl (HO.out.alloc _) ⟨w.heap.size, 0, none⟩ 3 4 [.int .u8 (224 + c / 64 / 64), .int .u8 (128 + c / 64 % 64), .int .u8 (128 + c % 64)] rfl rfl (news_pre (heap_alloc_new w _) rfl) ?hone ?h63 ?hby ?hbase ?_))
  case hone => simp [Value.oneCell']
  case h63 => unfold maxLen; omega
  case hby => omega
  case hbase => simp; omega
  intro v' w1 hown' hgrow _
  have HB : Hid (Below B w w1) := ((Below.refl B w).alloc hB _).grown hgrow (by simp; omega) (fun k hk => (HO.out.lt k hk).1)
  have HO1 : Hid (w1.ownsRow B 5 1 v' (n + 3) (xs ++ [.int .u8 (224 + c / 64 / 64), .int .u8 (128 + c / 64 % 64), .int .u8 (128 + c % 64)])) := hown'
  clear hown' hgrow
  go_wp2
  go_ret
  exact ⟨v', rfl, HO1.out, HB.out⟩
theorem lay_4 (B : Nat) (v : Value) (n : Nat) (xs : List Value) (c : Int) (w : World) (h0 : 65536 ≤ c) (h1 : c ≤ 1114111) (hown : w.ownsRow B 5 1 v n xs) (hn : n ≤ 1000000000000) (hB : B ≤ w.heap.size) :
    Calls Try.prog 21 #[v, .int .i32 c, .int .i64 4] w fun e w' => ∃ v', e = .returned v' ∧ w'.ownsRow B 5 1 v' (n + 4) (xs ++ [.int .u8 (240 + c / 64 / 64 / 64), .int .u8 (128 + c / 64 / 64 % 64), .int .u8 (128 + c / 64 % 64), .int .u8 (128 + c % 64)]) ∧ Below B w w' := by
  obtain ⟨i0, hi, hz0, hz1, hz2⟩ := info_parts info_u8
  have HO : Hid (w.ownsRow B 5 1 v n xs) := hown
  clear hown
  have mk4 : mk 4 = 240 := rfl
  have hor : True := trivial
  go_enter Try.func21, Try.ntmps21
  go_wp2_with (first | (go_at_call 28; refine (mark_any _ _).mono ?_; rintro e w' ⟨rfl, rfl⟩) | (go_at_call 27; refine (later_any _ _ (by omega) (by omega)).mono ?_; rintro e w' ⟨rfl, rfl⟩) | (at_builtin; refine wpList_append_own _ rfl (.tmp 36) (.tmp 38) 23 rfl B 5 i0 (.int .u8 0) 1 1 Try.underlying23 hi hz0 hz1 hz2 rfl (by decide) v n xs rfl (HO.out.alloc _) ⟨w.heap.size, 0, none⟩ 4 4 [.int .u8 (240 + c / 64 / 64 / 64), .int .u8 (128 + c / 64 / 64 % 64), .int .u8 (128 + c / 64 % 64), .int .u8 (128 + c % 64)] rfl rfl (news_pre (heap_alloc_new w _) rfl) ?hone ?h63 ?hby ?hbase ?_))
  case hone => simp [Value.oneCell']
  case h63 => unfold maxLen; omega
  case hby => omega
  case hbase => simp; omega
  intro v' w1 hown' hgrow _
  have HB : Hid (Below B w w1) := ((Below.refl B w).alloc hB _).grown hgrow (by simp; omega) (fun k hk => (HO.out.lt k hk).1)
  have HO1 : Hid (w1.ownsRow B 5 1 v' (n + 4) (xs ++ [.int .u8 (240 + c / 64 / 64 / 64), .int .u8 (128 + c / 64 / 64 % 64), .int .u8 (128 + c / 64 % 64), .int .u8 (128 + c % 64)])) := hown'
  clear hown' hgrow
  go_wp2
  go_ret
  exact ⟨v', rfl, HO1.out, HB.out⟩

theorem lay_any (B : Nat) (v : Value) (n : Nat) (xs : List Value) (c : Int) (w : World) (hc : sz c ≠ 0) (hown : w.ownsRow B 5 1 v n xs) (hn : n ≤ 1000000000000) (hB : B ≤ w.heap.size) :
    Calls Try.prog 21 #[v, .int .i32 c, .int .i64 (sz c)] w fun e w' => ∃ v', e = .returned v' ∧ w'.ownsRow B 5 1 v' (n + (by8 c).length) (xs ++ (by8 c).map (Value.int .u8)) ∧ Below B w w' := by
  have hp := sz_pos c hc
  rcases (by omega : c ≤ 127 ∨ 128 ≤ c ∧ c ≤ 2047 ∨ 2048 ≤ c ∧ c ≤ 65535 ∨ 65536 ≤ c ∧ c ≤ 1114111) with h | h | h | h
  · have e1 : sz c = 1 := by unfold sz; repeat' split; all_goals omega
    have e2 := by8_1 c h
    rw [e1, e2]
    exact lay_1 B v n xs c w hp.1 h hown hn hB
  · have e1 : sz c = 2 := by unfold sz; repeat' split; all_goals omega
    have e2 := by8_2 c h
    rw [e1, e2]
    exact lay_2 B v n xs c w h.1 h.2 hown hn hB
  · have e1 : sz c = 3 := by unfold sz; repeat' split; all_goals omega
    have e2 := by8_3 c h
    rw [e1, e2]
    exact lay_3 B v n xs c w h.1 h.2 hown hn hB
  · have e1 : sz c = 4 := by unfold sz; repeat' split; all_goals omega
    have e2 := by8_4 c h.1
    rw [e1, e2]
    exact lay_4 B v n xs c w h.1 h.2 hown hn hB
end Go.Proofs.Ytdoflmgdmcmmfaa
