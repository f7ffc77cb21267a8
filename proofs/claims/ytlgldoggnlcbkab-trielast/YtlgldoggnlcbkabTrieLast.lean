/- Proved: for all entries l and every entry e the call TrieLast(l, e) returns true and leaves l as it was (of more than 60 nothing is asked). -/
import Derived.Test.YtlgldoggnlcbkabTrieLastOf
import Derived.Test.YtlgldoggnlcbkabTrieCode
import Derived.Lib.SmallJoins
namespace Go.Proofs.Ytlgldoggnlcbkab.trieLast
open Go.ChangeShapes Go.WideShapes Go.ChangeAt Go.RowKit Tt
set_option linter.unusedVariables false


set_option maxRecDepth 100000 in
theorem walk_long (x : Option Addr) (c : Nat) (s : List T3) (r0 r1 r2 : Int) (wr0 : (Lit.int .i64 r0).wf = true) (wr1 : (Lit.int .i64 r1).wf = true) (wr2 : (Lit.int .i64 r2).wf = true) (w : World) (R : Rds fE 3 w x c s) (hl : 60 < s.length) :
    Calls Try.prog 3 #[.slice x s.length c, .agg #[.int .i64 r0, .int .i64 r1, .int .i64 r2]] w fun e w' => e = .returned (.bool true) ∧ Below w.heap.size w w' := by
  have hn := below_new w (.cells #[.int .i64 r0, .int .i64 r1, .int .i64 r2] 26)
  have hmx := Nat.le_trans R.le R.max
  unfold maxLen at hmx
  go_enter Try.func3, Try.ntmps3
  go_wp2_with fail
  refine (awake7_of code _).mono ?_
  rintro e w1 ⟨rfl, hb1⟩
  go_wp2_with fail
  go_ret
  exact ⟨rfl, below_step hn hb1⟩
set_option maxRecDepth 100000 in
theorem walk_bad (x : Option Addr) (c : Nat) (s : List T3) (r0 r1 r2 : Int) (hme : M.mayB r0 r1 = false) (w : World) (R : Rds fE 3 w x c s) (hl : s.length ≤ 60) :
    Calls Try.prog 3 #[.slice x s.length c, .agg #[.int .i64 r0, .int .i64 r1, .int .i64 r2]] w fun e w' => e = .returned (.bool true) ∧ Below w.heap.size w w' := by
  have hmx := Nat.le_trans R.le R.max
  unfold maxLen at hmx
  have hn := below_new w (.cells #[.int .i64 r0, .int .i64 r1, .int .i64 r2] 26)
  have X := Lies.new w [r0, r1, r2] 26 rfl
  have cm := fun w => may_any r0 r1 w
  rw [hme] at cm
  go_enter Try.func3, Try.ntmps3
  go_wp2_with fail
  refine (awake7_of code _).mono ?_
  rintro e w0 ⟨rfl, hb0⟩
  obtain ⟨x0, x1, x2⟩ := (X.later hb0).three
  go_wp2_with fail
  refine (cm _).mono ?_
  rintro e w1 ⟨rfl, hb1⟩
  go_wp2_with fail
  go_ret
  exact ⟨rfl, below_step (below_step hn hb0) hb1⟩
theorem walk (x : Option Addr) (c : Nat) (s : List T3) (r0 r1 r2 : Int) (wr0 : (Lit.int .i64 r0).wf = true) (wr1 : (Lit.int .i64 r1).wf = true) (wr2 : (Lit.int .i64 r2).wf = true) (w : World) (R : Rds fE 3 w x c s) :
    Calls Try.prog 3 #[.slice x s.length c, .agg #[.int .i64 r0, .int .i64 r1, .int .i64 r2]] w fun e w' => e = .returned (.bool true) ∧ Below w.heap.size w w' := by
  by_cases hl : 60 < s.length
  · exact walk_long x c s r0 r1 r2 wr0 wr1 wr2 w R hl
  · cases hme : M.mayB r0 r1
    · exact walk_bad x c s r0 r1 r2 hme w R (by omega)
    · exact walk_of code x c s r0 r1 r2 wr0 wr1 wr2 hme w R (by omega)

theorem own : ownKnob Try.prog.godebug = none := by kernel_rfl
theorem laidOut : laidOutB Try.prog = true := by kernel_rfl
set_option maxRecDepth 100000 in
theorem lifted (os : Os) (started : os.Started) (H : Type) (enc : TypeId × Value → H) :
    ReturnsInHanded {} Try.checked os 3 .any (Rows.trieLastSpec.pre6 enc Try.prog Try.f3 Rows.trieLastRow.domain false) (Rows.trieLastSpec.post enc Try.prog Try.f3 false true false false) := by
  refine returnsInHanded_of_change (C := Try.checked) own started (by kernel_rfl) Try.func3
    (ChangeSpec.witness6 (enc := enc) (C := Try.checked) false ⟨#[], #[.slice none 0 0, .agg #[.int .i64 0, .int .i64 0, .int .i64 0]], []⟩ 8 (by kernel_rfl) (by kernel_rfl) (by kernel_rfl) (by kernel_rfl)) ?_
  intro W base args ds gs before hval0 hW hcnd _
  have hval : ∀ (j : Nat) t v, Try.f3.params[j]? = some t → args[j]? = some v → Value.okWide Try.prog W .any base t v := hval0
  have hW' := hW
  obtain ⟨p, q, hA0, hV, rfl, hfz, hnd⟩ := hW
  have hA : DataW.TrodAll enc Try.prog W 0 (fun _ => true) true Try.f3.params.toList args.toList ds p := hA0
  rw [Try.params3] at hA hval
  obtain ⟨v0, vs0, d0, ds0, p0, q0, hargs, rfl, rfl, h0, r0⟩ := trodAll_cons hA
  obtain ⟨v1, vs1, d1, ds1, p1, q1, rfl, rfl, rfl, h1, r1⟩ := trodAll_cons r0
  obtain ⟨rfl, rfl, rfl⟩ := trodAll_nil r1
  obtain rfl : args = #[v0, v1] := by cases args; simp_all
  obtain ⟨rfl, rfl⟩ := trodVars_none hV
  obtain ⟨a0, n0, c0, rfl⟩ := okWide_slice Try.underlying22 (hval 0 22 v0 rfl rfl)
  have k0 := h0
  have lt0 : ∀ x ∈ p0, x.block < W.heap.size := by obtain ⟨m, hm⟩ := k0; exact DataW.trod_lt m _ _ _ hm
  have k1 := h1
  have lt1 : ∀ x ∈ p1, x.block < W.heap.size := by obtain ⟨m, hm⟩ := k1; exact DataW.trod_lt m _ _ _ hm
  obtain ⟨l0, el0, R0⟩ : ∃ l : List Tt.T3, n0 = List.length l ∧ Rds fE 3 W a0 c0 l := by
    obtain ⟨fuel, hf⟩ := h0
    exact rds_of_trod Try.underlying22 (by kernel_rfl) (fun _ => rfl) (by decide) fE_len elemE (by simpa [Value.cells] using hf)
  subst el0
  obtain ⟨a1, b1, c1, rfl, w1a, w1b, w1c⟩ := open_entry (hval 1 26 v1 rfl rfl) h1
  clear hA0 hval0
  refine (walk a0 c0 l0 a1 b1 c1 w1a w1b w1c W R0).mono fun e W' ⟨he, bel⟩ => ?_
  subst he
  exact ⟨_, rfl, _, _, _, [], _, [], hW', trodAll_mk1 (shut_bool Try.underlying4 _), (trodAll_cons_mk (Below.trod laidOut (by kernel_rfl) (of_decide_eq_true (by kernel_rfl)) k0 bel lt0) (trodAll_cons_mk (Below.trod laidOut (by kernel_rfl) (of_decide_eq_true (by kernel_rfl)) k1 bel lt1) trodAll_mk0)), rfl, bel.frame _, fun h => by cases h⟩

theorem over : Rows.trieLastRow.holds Try.pinned (OpenSpec.ofChange Rows.trieLastSpec) :=
  OpenClaim.holds_of_wide 3 Try.f3 rfl rfl rfl rfl rfl rfl rfl ⟨rfl, rfl, rfl, rfl, rfl⟩ rfl rfl rfl rfl rfl (by kernel_rfl) Try.func3 (by kernel_rfl)
    (of_decide_eq_true (by kernel_rfl)) (by unfold Func.isWrapper; first | (rw [if_pos (by decide +kernel)]; kernel_rfl) | (rw [if_neg (by decide +kernel)]; exact ⟨rfl, rfl⟩))
    (fun os started H enc _ => lifted os started H enc)
end Go.Proofs.Ytlgldoggnlcbkab.trieLast
namespace Go.Proofs.Ytlgldoggnlcbkab
theorem trieLast_holds : Rows.TrieLastSaid := trieLast.over
#print axioms trieLast_holds
end Go.Proofs.Ytlgldoggnlcbkab
