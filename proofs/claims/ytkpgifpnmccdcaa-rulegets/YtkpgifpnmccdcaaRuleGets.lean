/- Proved: for all bytes b the call RuleGets(b) returns true and leaves b as it was: the rule that any bytes begin with, or why there is none, is what the document says (of more than 3000 bytes nothing is asked). No condition. -/
import Derived.Test.YtkpgifpnmccdcaaRuleRefs
import Derived.Test.YtkpgifpnmccdcaaRuleOpen
import Derived.Lib.SmallJoins
namespace Go.Proofs.Ytkpgifpnmccdcaa.ruleGets
open Go.ChangeShapes Go.WideShapes Go.ChangeAt Go.RowKit R
set_option linter.unusedVariables false


set_option maxHeartbeats 1000000 in
theorem gets_main (x : Option Addr) (c : Nat) (s : List Int) (w : World) (R : Reads .u8 w x c s) (hl : s.length ≤ 3000) {a n i p k t z : Int}
    (cG : Hid (∀ w1, Reads .u8 w1 x c s → Calls Try.prog 20 #[.slice x s.length c] w1 fun e w' => e = .returned (.tuple #[.agg #[.int .i64 a, .int .i64 n, .int .i64 i, .int .i64 p, .int .i64 k, .int .i64 t], .int .i64 z]) ∧ Below w1.heap.size w1 w'))
    (cR : Hid (∀ w1, Reads .u8 w1 x c s → Calls Try.prog 21 #[.slice x s.length c] w1 fun e w' => e = .returned (.tuple #[.agg #[.int .i64 a, .int .i64 n, .int .i64 i, .int .i64 p, .int .i64 k, .int .i64 t], .int .i64 z]) ∧ Below w1.heap.size w1 w')) :
    Calls Try.prog 4 #[.slice x s.length c] w fun e w' => e = .returned (.bool true) ∧ Below w.heap.size w w' := by
  have hmx := Nat.le_trans R.le R.max
  unfold maxLen at hmx
  go_enter Try.func4, Try.ntmps4
  go_wp2_with fail
  refine (awake_any _).mono ?_
  rintro e w1 ⟨rfl, hb1⟩
  have R1 := R.later hb1
  go_wp2_with fail
  refine (cG.out _ R1).mono ?_
  rintro e w2 ⟨rfl, hb2⟩
  have hb3 := below_new w2 (.cells #[.int .i64 a, .int .i64 n, .int .i64 i, .int .i64 p, .int .i64 k, .int .i64 t] 27)
  have R3 := (R1.later hb2).later hb3
  have X3 := Lies.new w2 [a, n, i, p, k, t] 27 rfl
  go_wp2_with fail
  refine (cR.out _ R3).mono ?_
  rintro e w4 ⟨rfl, hb4⟩
  have hb5 := below_new w4 (.cells #[.int .i64 a, .int .i64 n, .int .i64 i, .int .i64 p, .int .i64 k, .int .i64 t] 27)
  obtain ⟨x0, x1, x2, x3, x4, x5⟩ := ((X3.later hb4).later hb5).six
  go_wp2_with fail
  go_ret
  exact ⟨rfl, below_step (below_step (below_step (below_step hb1 hb2) hb3) hb4) hb5⟩
theorem walk (x : Option Addr) (c : Nat) (s : List Int) (w : World) (R : Reads .u8 w x c s) :
    Calls Try.prog 4 #[.slice x s.length c] w fun e w' => e = .returned (.bool true) ∧ Below w.heap.size w w' := by
  by_cases hl : 3000 < s.length
  · have hmx := Nat.le_trans R.le R.max
    unfold maxLen at hmx
    go_enter Try.func4, Try.ntmps4
    go_wp2_with fail
    refine (awake_any _).mono ?_
    rintro e w1 ⟨rfl, hb1⟩
    go_wp2_with fail
    go_ret
    exact ⟨rfl, hb1⟩
  · exact gets_main x c s w R (by omega) (fun w1 R1 => ruGet_any w1 R1 (by omega)) (fun w1 R1 => rrGet_any w1 R1 (by omega))

theorem own : ownKnob Try.prog.godebug = none := by kernel_rfl
theorem laidOut : laidOutB Try.prog = true := by kernel_rfl
set_option maxRecDepth 100000 in
theorem lifted (os : Os) (started : os.Started) (H : Type) (enc : TypeId × Value → H) :
    ReturnsInHanded {} Try.checked os 4 .any (Rows.ruleGetsSpec.pre6 enc Try.prog Try.f4 Rows.ruleGetsRow.domain false) (Rows.ruleGetsSpec.post enc Try.prog Try.f4 false true false false) := by
  refine returnsInHanded_of_change (C := Try.checked) own started (by kernel_rfl) Try.func4
    (ChangeSpec.witness6 (enc := enc) (C := Try.checked) false ⟨#[], #[.slice none 0 0], []⟩ 8 (by kernel_rfl) (by kernel_rfl) (by kernel_rfl) (by kernel_rfl)) ?_
  intro W base args ds gs before hval0 hW hcnd _
  have hval : ∀ (j : Nat) t v, Try.f4.params[j]? = some t → args[j]? = some v → Value.okWide Try.prog W .any base t v := hval0
  have hW' := hW
  obtain ⟨p, q, hA0, hV, rfl, hfz, hnd⟩ := hW
  have hA : DataW.TrodAll enc Try.prog W 0 (fun _ => true) true Try.f4.params.toList args.toList ds p := hA0
  rw [Try.params4] at hA hval
  obtain ⟨v0, vs0, d0, ds0, p0, q0, hargs, rfl, rfl, h0, r0⟩ := trodAll_cons hA
  obtain ⟨rfl, rfl, rfl⟩ := trodAll_nil r0
  obtain rfl : args = #[v0] := by cases args; simp_all
  obtain ⟨rfl, rfl⟩ := trodVars_none hV
  obtain ⟨a0, n0, c0, rfl⟩ := okWide_slice Try.underlying29 (hval 0 29 v0 rfl rfl)
  have k0 := h0
  have lt0 : ∀ x ∈ p0, x.block < W.heap.size := by obtain ⟨m, hm⟩ := k0; exact DataW.trod_lt m _ _ _ hm
  obtain ⟨l0, el0, R0⟩ : ∃ l, n0 = List.length l ∧ Reads .u8 W a0 c0 l := by
    obtain ⟨fuel, hf⟩ := h0
    rcases open_ints Try.underlying29 Try.underlying5 (by kernel_rfl) hf with ⟨hcs, _⟩ | ⟨x, l, c, zs, hcs, _, hl, hm, hz, _, hcell, hwz⟩
    · simp [Value.cells] at hcs
      obtain ⟨rfl, rfl, rfl⟩ := hcs
      exact ⟨[], rfl, Reads.none _ _⟩
    · simp [Value.cells] at hcs
      obtain ⟨rfl, rfl, rfl⟩ := hcs
      have hz2 : List.length zs = c0 := by simpa using hz
      exact ⟨List.take _ zs, by rw [List.length_take, hz2]; omega, reads_of_ints hl hm hz2 hcell hwz⟩
  subst el0
  clear hA0 hval0
  refine (walk a0 c0 l0  W R0).mono fun e W' ⟨he, bel⟩ => ?_
  subst he
  exact ⟨_, rfl, _, _, _, [], _, [], hW', trodAll_mk1 (shut_bool Try.underlying4 _), (trodAll_cons_mk (Below.trod laidOut (by kernel_rfl) (of_decide_eq_true (by kernel_rfl)) k0 bel lt0) trodAll_mk0), rfl, bel.frame _, fun h => by cases h⟩

theorem over : Rows.ruleGetsRow.holds Try.pinned (OpenSpec.ofChange Rows.ruleGetsSpec) :=
  OpenClaim.holds_of_wide 4 Try.f4 rfl rfl rfl rfl rfl rfl rfl ⟨rfl, rfl, rfl, rfl, rfl⟩ rfl rfl rfl rfl rfl (by kernel_rfl) Try.func4 (by kernel_rfl)
    (of_decide_eq_true (by kernel_rfl)) (by unfold Func.isWrapper; first | (rw [if_pos (by decide +kernel)]; kernel_rfl) | (rw [if_neg (by decide +kernel)]; exact ⟨rfl, rfl⟩))
    (fun os started H enc _ => lifted os started H enc)
end Go.Proofs.Ytkpgifpnmccdcaa.ruleGets
namespace Go.Proofs.Ytkpgifpnmccdcaa
theorem ruleGets_holds : Rows.RuleGetsSaid := ruleGets.over
#print axioms ruleGets_holds
end Go.Proofs.Ytkpgifpnmccdcaa
