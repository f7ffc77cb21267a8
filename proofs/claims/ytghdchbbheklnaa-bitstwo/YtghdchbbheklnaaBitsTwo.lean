/- Proved: for all prefixes p, q and ints a the call BitsTwo(p, q, a) returns true: of two prefixes that may be one is within the other one, or they have no address in common, and two that are within each other are one. No condition. -/
import Derived.Test.YtghdchbbheklnaaBitsAwake
import Derived.Lib.SmallJoins
namespace Go.Proofs.Ytghdchbbheklnaa.bitsTwo
open Go.ChangeShapes Go.WideShapes Go.ChangeAt Go.RowKit M
set_option linter.unusedVariables false

set_option maxHeartbeats 1000000 in
theorem two_core (p0 p1 q0 q1 a : Int) (w : World) (x y u v z : Bool) (hp : mayB p0 p1 = true) (hq : mayB q0 q1 = true)
    (hx : inB p0 p1 q0 q1 = x) (hy : inB q0 q1 p0 p1 = y) (hu : hasB p0 p1 a = u) (hv : hasB q0 q1 a = v) (hz : (p0 == q0 && p1 == q1) = z)
    (ok : ((x || y || !(u && v)) && ((x && y) == z) && (!x || !v || u)) = true) :
    Calls Try.prog 5 #[.agg #[.int .i64 p0, .int .i64 p1], .agg #[.int .i64 q0, .int .i64 q1], .int .i64 a] w fun e w' => e = .returned (.bool true) ∧ Below w.heap.size w w' := by
  have S := St.new w p0 p1 q0 q1
  have heq : ∀ w, (binOp .eql 26 (.agg #[.int .i64 p0, .int .i64 p1]) (.agg #[.int .i64 q0, .int .i64 q1])).run Try.prog w = .ok (.bool z) w := fun w => by rw [eq_prefix, hz]
  clear hz
  cases x <;> cases y <;> cases u <;> cases v <;> cases z <;> first | (exfalso; revert ok; decide) | skip
  all_goals clear ok
  all_goals
    go_enter Try.func5, Try.ntmps5
    go_wp2_with (first | (go_at_call 9; refine (awake_any _).mono ?_; rintro e w1 ⟨rfl, hb⟩; replace S := S.step hb; obtain ⟨_, _, c0, c1, c2, c3⟩ := id S) | (go_at_call 21; refine (may_any _ _ _).mono ?_; rintro e w1 ⟨rfl, hb⟩; replace S := S.step hb; obtain ⟨_, _, c0, c1, c2, c3⟩ := id S) | (go_at_call 23; refine (within_any _ _ _ _ _).mono ?_; rintro e w1 ⟨rfl, hb⟩; replace S := S.step hb; obtain ⟨_, _, c0, c1, c2, c3⟩ := id S) | (go_at_call 22; refine (has_any _ _ _ _).mono ?_; rintro e w1 ⟨rfl, hb⟩; replace S := S.step hb; obtain ⟨_, _, c0, c1, c2, c3⟩ := id S))
    go_ret
    exact ⟨rfl, S.below⟩

set_option maxHeartbeats 1000000 in
theorem walk (p0 p1 q0 q1 a : Int) (w0 : (Lit.int .i64 p0).wf = true) (w1 : (Lit.int .i64 p1).wf = true) (w2 : (Lit.int .i64 q0).wf = true) (w3 : (Lit.int .i64 q1).wf = true) (w4 : (Lit.int .i64 a).wf = true) (w : World) :
    Calls Try.prog 5 #[.agg #[.int .i64 p0, .int .i64 p1], .agg #[.int .i64 q0, .int .i64 q1], .int .i64 a] w fun e w' => e = .returned (.bool true) ∧ Below w.heap.size w w' := by
  clear w0 w1 w2 w3 w4
  cases hp : mayB p0 p1
  · have S := St.new w p0 p1 q0 q1
    go_enter Try.func5, Try.ntmps5
    go_wp2_with (first | (go_at_call 9; refine (awake_any _).mono ?_; rintro e w1 ⟨rfl, hb⟩; replace S := S.step hb; obtain ⟨_, _, c0, c1, c2, c3⟩ := id S) | (go_at_call 21; refine (may_any _ _ _).mono ?_; rintro e w1 ⟨rfl, hb⟩; replace S := S.step hb; obtain ⟨_, _, c0, c1, c2, c3⟩ := id S) | (go_at_call 23; refine (within_any _ _ _ _ _).mono ?_; rintro e w1 ⟨rfl, hb⟩; replace S := S.step hb; obtain ⟨_, _, c0, c1, c2, c3⟩ := id S) | (go_at_call 22; refine (has_any _ _ _ _).mono ?_; rintro e w1 ⟨rfl, hb⟩; replace S := S.step hb; obtain ⟨_, _, c0, c1, c2, c3⟩ := id S))
    go_ret
    exact ⟨rfl, S.below⟩
  cases hq : mayB q0 q1
  · have S := St.new w p0 p1 q0 q1
    go_enter Try.func5, Try.ntmps5
    go_wp2_with (first | (go_at_call 9; refine (awake_any _).mono ?_; rintro e w1 ⟨rfl, hb⟩; replace S := S.step hb; obtain ⟨_, _, c0, c1, c2, c3⟩ := id S) | (go_at_call 21; refine (may_any _ _ _).mono ?_; rintro e w1 ⟨rfl, hb⟩; replace S := S.step hb; obtain ⟨_, _, c0, c1, c2, c3⟩ := id S) | (go_at_call 23; refine (within_any _ _ _ _ _).mono ?_; rintro e w1 ⟨rfl, hb⟩; replace S := S.step hb; obtain ⟨_, _, c0, c1, c2, c3⟩ := id S) | (go_at_call 22; refine (has_any _ _ _ _).mono ?_; rintro e w1 ⟨rfl, hb⟩; replace S := S.step hb; obtain ⟨_, _, c0, c1, c2, c3⟩ := id S))
    go_ret
    exact ⟨rfl, S.below⟩
  exact two_core p0 p1 q0 q1 a w _ _ _ _ _ hp hq rfl rfl rfl rfl rfl (two_ok p0 p1 q0 q1 a hp hq)


theorem own : ownKnob Try.prog.godebug = none := by kernel_rfl
theorem laidOut : laidOutB Try.prog = true := by kernel_rfl
set_option maxRecDepth 100000 in
theorem lifted (os : Os) (started : os.Started) (H : Type) (enc : TypeId × Value → H) :
    ReturnsInHanded {} Try.checked os 5 .any (Rows.bitsTwoSpec.pre6 enc Try.prog Try.f5 Rows.bitsTwoRow.domain false) (Rows.bitsTwoSpec.post enc Try.prog Try.f5 false true false false) := by
  refine returnsInHanded_of_change (C := Try.checked) own started (by kernel_rfl) Try.func5
    (ChangeSpec.witness6 (enc := enc) (C := Try.checked) false ⟨#[], #[.agg #[.int .i64 0, .int .i64 0], .agg #[.int .i64 0, .int .i64 0], .int .i64 0], []⟩ 8 (by kernel_rfl) (by kernel_rfl) (by kernel_rfl) (by kernel_rfl)) ?_
  intro W base args ds gs before hval0 hW hcnd _
  have hval : ∀ (j : Nat) t v, Try.f5.params[j]? = some t → args[j]? = some v → Value.okWide Try.prog W .any base t v := hval0
  have hW' := hW
  obtain ⟨p, q, hA0, hV, rfl, hfz, hnd⟩ := hW
  have hA : DataW.TrodAll enc Try.prog W 0 (fun _ => true) true Try.f5.params.toList args.toList ds p := hA0
  rw [Try.params5] at hA hval
  obtain ⟨v0, vs0, d0, ds0, p0, q0, hargs, rfl, rfl, h0, r0⟩ := trodAll_cons hA
  obtain ⟨v1, vs1, d1, ds1, p1, q1, rfl, rfl, rfl, h1, r1⟩ := trodAll_cons r0
  obtain ⟨v2, vs2, d2, ds2, p2, q2, rfl, rfl, rfl, h2, r2⟩ := trodAll_cons r1
  obtain ⟨rfl, rfl, rfl⟩ := trodAll_nil r2
  obtain rfl : args = #[v0, v1, v2] := by cases args; simp_all
  obtain ⟨rfl, rfl⟩ := trodVars_none hV
  have k0 := h0
  have lt0 : ∀ x ∈ p0, x.block < W.heap.size := by obtain ⟨m, hm⟩ := k0; exact DataW.trod_lt m _ _ _ hm
  have k1 := h1
  have lt1 : ∀ x ∈ p1, x.block < W.heap.size := by obtain ⟨m, hm⟩ := k1; exact DataW.trod_lt m _ _ _ hm
  have k2 := h2
  have lt2 : ∀ x ∈ p2, x.block < W.heap.size := by obtain ⟨m, hm⟩ := k2; exact DataW.trod_lt m _ _ _ hm
  obtain ⟨x0a, x0b, y0a, y0b, n0, rfl, rfl, hp0, t0a, t0b⟩ := Go.Joins.open_agg2 Try.underlying26 (by kernel_rfl) (by kernel_rfl) (hval 0 26 v0 rfl rfl) h0
  obtain ⟨a0, e0a, f0a, w0a⟩ := DataW.trod_int Try.underlying3 t0a
  obtain rfl : x0a = .int .i64 a0 := by simpa using e0a
  obtain ⟨b0, e0b, f0b, w0b⟩ := DataW.trod_int Try.underlying3 t0b
  obtain rfl : x0b = .int .i64 b0 := by simpa using e0b
  obtain ⟨x1a, x1b, y1a, y1b, n1, rfl, rfl, hp1, t1a, t1b⟩ := Go.Joins.open_agg2 Try.underlying26 (by kernel_rfl) (by kernel_rfl) (hval 1 26 v1 rfl rfl) h1
  obtain ⟨a1, e1a, f1a, w1a⟩ := DataW.trod_int Try.underlying3 t1a
  obtain rfl : x1a = .int .i64 a1 := by simpa using e1a
  obtain ⟨b1, e1b, f1b, w1b⟩ := DataW.trod_int Try.underlying3 t1b
  obtain rfl : x1b = .int .i64 b1 := by simpa using e1b
  obtain ⟨a2, rfl, rfl, hp2, w2⟩ := open_int Try.underlying3 (hval 2 3 v2 rfl rfl) h2
  clear hA0 hval0
  refine (walk a0 b0 a1 b1 a2 w0a w0b w1a w1b w2 W).mono fun e W' ⟨he, bel⟩ => ?_
  subst he
  exact ⟨_, rfl, _, _, _, [], _, [], hW', trodAll_mk1 (shut_bool Try.underlying4 _), (trodAll_cons_mk (Below.trod laidOut (by kernel_rfl) (of_decide_eq_true (by kernel_rfl)) k0 bel lt0) (trodAll_cons_mk (Below.trod laidOut (by kernel_rfl) (of_decide_eq_true (by kernel_rfl)) k1 bel lt1) (trodAll_cons_mk (Below.trod laidOut (by kernel_rfl) (of_decide_eq_true (by kernel_rfl)) k2 bel lt2) trodAll_mk0))), rfl, bel.frame _, fun h => by cases h⟩

theorem over : Rows.bitsTwoRow.holds Try.pinned (OpenSpec.ofChange Rows.bitsTwoSpec) :=
  OpenClaim.holds_of_wide 5 Try.f5 rfl rfl rfl rfl rfl rfl rfl ⟨rfl, rfl, rfl, rfl, rfl⟩ rfl rfl rfl rfl rfl (by kernel_rfl) Try.func5 (by kernel_rfl)
    (of_decide_eq_true (by kernel_rfl)) (by unfold Func.isWrapper; first | (rw [if_pos (by decide +kernel)]; kernel_rfl) | (rw [if_neg (by decide +kernel)]; exact ⟨rfl, rfl⟩))
    (fun os started H enc _ => lifted os started H enc)
end Go.Proofs.Ytghdchbbheklnaa.bitsTwo
namespace Go.Proofs.Ytghdchbbheklnaa
theorem bitsTwo_holds : Rows.BitsTwoSaid := bitsTwo.over
#print axioms bitsTwo_holds
end Go.Proofs.Ytghdchbbheklnaa
