/- The walks of Clone, markedOf and ends. -/
import Derived.Test.YtjbhfonokgkalaaReaG
import Derived.Laws.MakeOwn
namespace Go.Proofs.Ytjbhfonokgkalaa
open Go.RowKit
set_option linter.unusedVariables false
set_option linter.unusedSimpArgs false

theorem info_i : (Try.prog.info? 3).map (fun i => (i.zero, i.size, i.bytes)) = some (some (.int .i64 0), 1, 8) := by kernel_rfl
theorem info_b : (Try.prog.info? 4).map (fun i => (i.zero, i.size, i.bytes)) = some (some (.bool false), 1, 1) := by kernel_rfl

set_option maxHeartbeats 1000000 in
theorem cloneI_any (xs : List Int) (a : Option Addr) (len cap : Nat) (w : World) (hrd : Rd .i64 w a len xs) (hnone : a = none → cap = 0) (hl : len ≤ 100000000) :
    Calls Try.prog 60 #[.slice a len cap] w fun e w' => ∃ v, e = .returned v ∧ w'.ownsRow w.heap.size 3 1 v len (xs.map (Value.int .i64)) ∧ Below w.heap.size w w' := by
  have hlen := hrd.1
  have q22 : ∀ (w : World) (a : Option Addr) (n c n' c' : Nat), (binOp .eql 23 (.slice a n c) (.slice none n' c')).run Try.prog w = .ok (.bool a.isNone) w := fun w a n c n' c' => Lib.run_eql_slice_nil w _ _ a n c n' c' Try.underlying23
  cases a with
  | none =>
    have h0 : len = 0 := rd_none hrd rfl
    have hr : xs = [] := List.eq_nil_of_length_eq_zero (by omega)
    have hc0 := hnone rfl
    subst h0 hr hc0
    clear hrd hnone hlen hl
    go_enter Try.func60, Try.ntmps60
    go_wp2
    go_ret
    exact ⟨_, rfl, World.ownsRow_nil _ _ _ _, Below.refl _ _⟩
  | some x =>
    obtain ⟨i0, hi, hz0, hz1, hz2⟩ := info_parts info_i
    have HI : Hid (Try.prog.info? 3 = some i0 ∧ i0.zero = some (.int .i64 0) ∧ i0.size = 1 ∧ i0.bytes = 8) := ⟨hi, hz0, hz1, hz2⟩
    have hown0 : (w.alloc (.cells #[] 3)).ownsRow w.heap.size 3 1 (.slice (some ⟨w.heap.size, 0, none⟩) 0 0) 0 [] := World.ownsRow_made w #[] 0 (Nat.le_refl _) (by simp [maxLen]) rfl
    have HO : Hid ((w.alloc (.cells #[] 3)).ownsRow w.heap.size 3 1 (.slice (some ⟨w.heap.size, 0, none⟩) 0 0) 0 []) := hown0
    have HR : Hid (Rd .i64 (w.alloc (.cells #[] 3)) (some x) len xs) := hrd.later ((Below.refl _ w).alloc (Nat.le_refl _) _)
    have HFIN : Hid (∀ v' w', w'.ownsRow w.heap.size 3 1 v' (0 + len) ([] ++ xs.map (Value.int .i64)) → (w.alloc (.cells #[] 3)).grownBy w' (some w.heap.size) → ∃ v, Ending.returned v' = .returned v ∧ w'.ownsRow w.heap.size 3 1 v len (xs.map (Value.int .i64)) ∧ Below w.heap.size w w') := by
      intro v' w' h1 h2
      refine ⟨v', rfl, by rw [Nat.zero_add, List.nil_append] at h1; exact h1, ?_⟩
      exact ((Below.refl _ w).alloc (Nat.le_refl _) _).grown h2 (by simp) (fun k hk => by cases hk; exact Nat.le_refl _)
    have HLL : Hid (len ≤ 100000000) := hl
    clear hi hz0 hz1 hz2 hown0 hrd hnone hlen hl
    go_enter Try.func60, Try.ntmps60
    go_wp2_with (at_builtin; refine wpList_append_rd rfl _ _ 23 rfl w.heap.size 3 i0 _ 8 Try.underlying23 HI.out.1 HI.out.2.1 HI.out.2.2.1 HI.out.2.2.2 rfl _ 0 [] rfl HO.out (some x) len cap .i64 xs rfl HR.out (fun h => by cases h) (by have := HLL.out; unfold maxLen; omega) (by have := HLL.out; omega) (by simp) (fun v' w' h1 h2 => ?_); have HF := HFIN.out v' w' h1 h2; have HFF : Hid _ := HF; clear HF h1 h2)
    go_ret
    exact HFF.out

/-- What markedOf leaves. -/
def MoPost (B d : Nat) (t : Bool) (n : Nd) (w : World) (e : Ending) (w' : World) : Prop :=
  Below w.heap.size w w' ∧ ∃ (x : Mk) (fp : Nat → Prop), e = .returned x.agg ∧ (∀ y, fp y → w.heap.size ≤ y ∧ y < w'.heap.size) ∧ NdV B w' d (n.nrm t) [] x.vals fp
theorem results_cell_one {fn : Func} {p : Tmp} {ty : TypeId} (h : fn.results = #[.cell p ty]) (tmps : Array Value) (P : Program) (w : World) :
    (results fn tmps).run P w = ((asAddr (tmps.getD p undef)).run P w).andThen fun a w₁ => (loadVar ty a).run P w₁ := by
  simp only [results, h]
  simp [Sem.run_bind, Result.andThen]

set_option maxHeartbeats 4000000 in
theorem markedOf_any (B d : Nat) (t : Bool) (n : Nd) (ca pa : Option Addr) (cc pc : Nat) (w : World) (hin : InV B w d n [.int .i64 n.op, .slice ca n.cl.length cc, .slice pa (toL n.kids).length pc]) (hB : B ≤ w.heap.size) (hd : d ≤ 131073) :
    Calls Try.prog 59 #[.agg #[.int .i64 n.op, .slice ca n.cl.length cc, .slice pa (toL n.kids).length pc], .bool t] w (MoPost B d t n w) := by
  obtain ⟨op, hop⟩ : ∃ op, op = n.op := ⟨_, rfl⟩
  obtain ⟨cn, hcn⟩ : ∃ cn, cn = n.cl.length := ⟨_, rfl⟩
  obtain ⟨K, hK⟩ : ∃ K, K = (toL n.kids).length := ⟨_, rfl⟩
  obtain ⟨W0, hW0⟩ : ∃ W0, W0 = ((w.alloc (.cells #[.int .i64 op, .slice ca cn cc, .slice pa K pc] 33)).alloc (.cells #[.int .i64 0, .slice none 0 0, .slice none 0 0, .bool false, .bool false] 82)) := ⟨_, rfl⟩
  obtain ⟨H, hH⟩ : ∃ H, H = w.heap.size := ⟨_, rfl⟩
  obtain ⟨R, hR⟩ : ∃ R, R = w.heap.size + 1 := ⟨_, rfl⟩
  have HB0 : Hid (Below H w W0) := by rw [hW0, hH]; exact ((Below.refl _ w).alloc (Nat.le_refl _) _).alloc (by simp) _
  have HS0 : Hid (W0.heap.size = H + 2 ∧ R = H + 1 ∧ H = w.heap.size) := ⟨by rw [hW0, hH]; simp, by rw [hR, hH], hH⟩
  have HBH : Hid (B ≤ H) := by show B ≤ H; rw [hH]; exact hB
  have HC : Hid (Calls Try.prog 79 #[.agg #[.int .i64 op, .slice ca cn cc, .slice pa K pc], .bool t, .int .i64 131072] W0 (MnPost B d t n W0)) := by
    have := HB0.out.size
    rw [hop, hcn, hK]
    exact mn_any B t d n ca pa cc pc W0 131072 (hin.later (by rw [← hH]; exact HB0.out) d) (by omega) (by omega) (by omega)
  have HR0 : Hid (W0.heap[R]? = some (.cells #[.int .i64 0, .slice none 0 0, .slice none 0 0, .bool false, .bool false] 82)) := by
    have := heap_alloc_new (w.alloc (.cells #[.int .i64 op, .slice ca cn cc, .slice pa K pc] 33)) (.cells #[.int .i64 0, .slice none 0 0, .slice none 0 0, .bool false, .bool false] 82)
    rw [← hW0, show (w.alloc (.cells #[.int .i64 op, .slice ca cn cc, .slice pa K pc] 33)).heap.size = R by rw [hR]; simp] at this
    exact this
  have hn0b : W0.heap[H]? = some (.cells #[.int .i64 op, .slice ca cn cc, .slice pa K pc] 33) := by
    rw [hW0, hH, Below.heap_alloc _ _ _ (by simp)]
    exact heap_alloc_new w _
  have n0 := cell_of_row W0 H 0 _ _ _ hn0b
  have n1 := cell_of_row W0 H 1 _ _ _ hn0b
  have n2 := cell_of_row W0 H 2 _ _ _ hn0b
  simp at n0 n1 n2
  rw [← hop, ← hcn, ← hK]
  clear hin hop hcn hK hn0b hB
  go_enter Try.func59, Try.ntmps59
  go_upto_region 1 with fail
  rw [← hW0, ← hR, ← hH]
  clear hW0 hR hH
  go_wp2_with fail
  refine HC.out.mono ?_
  rintro e w2 ⟨hb2, ⟨zo, za, zn, zc, ka, kn, kc, zm, ze⟩, fp, rfl, hfp, hnd⟩
  dsimp only [Mk.agg]
  obtain ⟨P3, hP3⟩ : ∃ P3, P3 = w2.alloc (.cells #[.int .i64 zo, .slice za zn zc, .slice ka kn kc, .bool zm, .bool ze] 82) := ⟨_, rfl⟩
  obtain ⟨Z, hZ⟩ : ∃ Z, Z = w2.heap.size := ⟨_, rfl⟩
  have hr2 : P3.heap[R]? = some (.cells #[.int .i64 0, .slice none 0 0, .slice none 0 0, .bool false, .bool false] 82) := by
    have h0 := HS0.out
    have := hb2.size
    rw [hP3, Below.heap_alloc _ _ _ (by omega), hb2.block R (by omega)]
    exact HR0.out
  have hz3 : P3.heap[Z]? = some (.cells #[.int .i64 zo, .slice za zn zc, .slice ka kn kc, .bool zm, .bool ze] 82) := by rw [hP3, hZ]; exact heap_alloc_new w2 _
  have hRZ : R ≠ Z := by have h0 := HS0.out; have := hb2.size; omega
  have HFIN : Hid (MoPost B d t n w (.returned (.agg #[.int .i64 zo, .slice za zn zc, .slice ka kn kc, .bool zm, .bool ze])) (F5 P3 R 0 ⟨zo, za, zn, zc, ka, kn, kc, zm, ze⟩)) := by
    have h0 := HS0.out
    have h1 := hb2.size
    have h2 : P3.heap.size = w2.heap.size + 1 := by rw [hP3]; simp
    have hg5 := f5_grown P3 R 0 ⟨zo, za, zn, zc, ka, kn, kc, zm, ze⟩
    have hs5 := f5_size P3 R 0 ⟨zo, za, zn, zc, ka, kn, kc, zm, ze⟩
    have hsame : ∀ y, y < w2.heap.size → y ≠ R → (F5 P3 R 0 ⟨zo, za, zn, zc, ka, kn, kc, zm, ze⟩).heap[y]? = w2.heap[y]? := fun y hy hne => (hg5.block y (by omega) (fun e => hne (by injection e))).trans (by rw [hP3]; exact Below.heap_alloc _ _ _ hy)
    have hP : P3.os = w2.os ∧ P3.tape = w2.tape ∧ P3.output = w2.output := by rw [hP3]; exact ⟨rfl, rfl, rfl⟩
    generalize F5 P3 R 0 ⟨zo, za, zn, zc, ka, kn, kc, zm, ze⟩ = V at hg5 hs5 hsame ⊢
    have hb0 := HB0.out
    refine ⟨?_, ⟨zo, za, zn, zc, ka, kn, kc, zm, ze⟩, fp, rfl, fun y hy => ?_, hnd.frame d (fun y hy hf => hsame y hy ?_)⟩
    · rw [← h0.2.2]
      refine ⟨hg5.os.trans (hP.1.trans (hb2.os.trans hb0.os)), hg5.tape.trans (hP.2.1.trans (hb2.tape.trans hb0.tape)), hg5.output.trans (hP.2.2.trans (hb2.output.trans hb0.output)), by have := hb0.size; omega, fun y hy => ?_⟩
      exact (hsame y (by omega) (by omega)).trans ((hb2.block y (by omega)).trans (hb0.block y hy))
    · have := hfp y hy; omega
    · rcases hf with hf | hf
      · have := hfp y hf; omega
      · have := HBH.out; omega
  obtain ⟨⟨s0, s1, s2, s3, s4⟩, _⟩ := box5 hz3
  obtain ⟨⟨u0, u1, u2, u3, u4⟩, uf⟩ := box5 hr2
  have uf0 := uf 0
  have uf1 := uf 1
  have uf2 := uf 2
  have uf3 := uf 3
  have uf4 := uf 4
  have hZR : Z ≠ R := fun e => hRZ e.symm
  clear hb2 hfp hnd hr2 hz3 uf n0 n1 n2 HC HR0
  go_upto_region 2 with fail
  rw [← hZ, ← hP3]
  clear hZ hP3
  go_wp2
  refine bodyPost_ret (v := .agg #[.int .i64 zo, .slice za zn zc, .slice ka kn kc, .bool zm, .bool ze]) ?_ rfl HFIN.out
  rw [results_cell_one rfl]
  go_simp
end Go.Proofs.Ytjbhfonokgkalaa
