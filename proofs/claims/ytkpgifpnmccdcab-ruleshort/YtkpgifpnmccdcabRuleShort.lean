/- Proved: for every rule r and every int k the call RuleShort(r, k) returns true: a rule's bytes, cut short, are none. No condition. -/
import Derived.Test.YtkpgifpnmccdcabRuleMore
import Derived.Test.YtkpgifpnmccdcabRuleOpen
import Derived.Lib.SmallJoins
namespace Go.Proofs.Ytkpgifpnmccdcab.ruleShort
open Go.ChangeShapes Go.WideShapes Go.ChangeAt Go.RowKit R
set_option linter.unusedVariables false


set_option maxHeartbeats 1000000 in
theorem short_bad (a n i p k t v : Int) (w : World) (hk : okR a n i p k t = false) :
    Calls Try.prog 4 #[.agg #[.int .i64 a, .int .i64 n, .int .i64 i, .int .i64 p, .int .i64 k, .int .i64 t], .int .i64 v] w fun e w' => e = .returned (.bool true) ∧ Below w.heap.size w w' := by
  have hn0 := below_new w (.cells #[.int .i64 a, .int .i64 n, .int .i64 i, .int .i64 p, .int .i64 k, .int .i64 t] 27)
  have X0 := Lies.new w [a, n, i, p, k, t] 27 (B := w.heap.size) rfl
  have hB := hn0
  clear hn0
  obtain ⟨x00, x01, x02, x03, x04, x05⟩ := X0.six
  go_enter Try.func4, Try.ntmps4
  go_wp2_with fail
  refine (awake_any _).mono ?_
  rintro e w1 ⟨rfl, hb1⟩
  clear x00 x01 x02 x03 x04 x05
  replace X0 := X0.later hb1
  replace hB := below_step hB hb1
  clear hb1
  obtain ⟨x00, x01, x02, x03, x04, x05⟩ := X0.six
  go_wp2_with fail
  refine (ruPut_bad hk _).mono ?_
  rintro e w2 ⟨rfl, hb2⟩
  clear x00 x01 x02 x03 x04 x05
  replace X0 := X0.later hb2
  replace hB := below_step hB hb2
  clear hb2
  obtain ⟨x00, x01, x02, x03, x04, x05⟩ := X0.six
  go_wp2_with fail
  go_ret
  exact ⟨rfl, hB⟩
set_option maxHeartbeats 1000000 in
theorem short_low (a n i p k t v : Int) (w : World) (hk : okR a n i p k t = true) (h : v < 0) :
    Calls Try.prog 4 #[.agg #[.int .i64 a, .int .i64 n, .int .i64 i, .int .i64 p, .int .i64 k, .int .i64 t], .int .i64 v] w fun e w' => e = .returned (.bool true) ∧ Below w.heap.size w w' := by
  have hn0 := below_new w (.cells #[.int .i64 a, .int .i64 n, .int .i64 i, .int .i64 p, .int .i64 k, .int .i64 t] 27)
  have X0 := Lies.new w [a, n, i, p, k, t] 27 (B := w.heap.size) rfl
  have hB := hn0
  clear hn0
  obtain ⟨x00, x01, x02, x03, x04, x05⟩ := X0.six
  go_enter Try.func4, Try.ntmps4
  go_wp2_with fail
  refine (awake_any _).mono ?_
  rintro e w1 ⟨rfl, hb1⟩
  clear x00 x01 x02 x03 x04 x05
  replace X0 := X0.later hb1
  replace hB := below_step hB hb1
  clear hb1
  obtain ⟨x00, x01, x02, x03, x04, x05⟩ := X0.six
  go_wp2_with fail
  refine (ruPut_ok hk _).mono ?_
  rintro e w2 ⟨a2, k2, rfl, R2, _, hb2⟩
  clear x00 x01 x02 x03 x04 x05
  replace X0 := X0.later hb2
  replace hB := below_step hB hb2
  clear hb2
  obtain ⟨x00, x01, x02, x03, x04, x05⟩ := X0.six
  go_wp2_with fail
  go_ret
  exact ⟨rfl, hB⟩
set_option maxHeartbeats 1000000 in
theorem short_high (a n i p k t v : Int) (w : World) (hk : okR a n i p k t = true) (h : 9 ≤ v) :
    Calls Try.prog 4 #[.agg #[.int .i64 a, .int .i64 n, .int .i64 i, .int .i64 p, .int .i64 k, .int .i64 t], .int .i64 v] w fun e w' => e = .returned (.bool true) ∧ Below w.heap.size w w' := by
  have hn0 := below_new w (.cells #[.int .i64 a, .int .i64 n, .int .i64 i, .int .i64 p, .int .i64 k, .int .i64 t] 27)
  have X0 := Lies.new w [a, n, i, p, k, t] 27 (B := w.heap.size) rfl
  have hB := hn0
  clear hn0
  obtain ⟨x00, x01, x02, x03, x04, x05⟩ := X0.six
  go_enter Try.func4, Try.ntmps4
  go_wp2_with fail
  refine (awake_any _).mono ?_
  rintro e w1 ⟨rfl, hb1⟩
  clear x00 x01 x02 x03 x04 x05
  replace X0 := X0.later hb1
  replace hB := below_step hB hb1
  clear hb1
  obtain ⟨x00, x01, x02, x03, x04, x05⟩ := X0.six
  go_wp2_with fail
  refine (ruPut_ok hk _).mono ?_
  rintro e w2 ⟨a2, k2, rfl, R2, _, hb2⟩
  clear x00 x01 x02 x03 x04 x05
  replace X0 := X0.later hb2
  replace hB := below_step hB hb2
  clear hb2
  obtain ⟨x00, x01, x02, x03, x04, x05⟩ := X0.six
  go_wp2_with fail
  go_ret
  exact ⟨rfl, hB⟩
set_option maxHeartbeats 1000000 in
theorem short_main (a n i p k t : Int) (s : Nat) (w : World) (hk : okR a n i p k t = true) (hs : s < 9) (hb9 : (bodyR a n i p k t).length = 9) (hT : ((bodyR a n i p k t).take s).length = s) (HG : Hid (rgE ((bodyR a n i p k t).take s) = 3)) :
    Calls Try.prog 4 #[.agg #[.int .i64 a, .int .i64 n, .int .i64 i, .int .i64 p, .int .i64 k, .int .i64 t], .int .i64 (s : Int)] w fun e w' => e = .returned (.bool true) ∧ Below w.heap.size w w' := by
  have hn0 := below_new w (.cells #[.int .i64 a, .int .i64 n, .int .i64 i, .int .i64 p, .int .i64 k, .int .i64 t] 27)
  have X0 := Lies.new w [a, n, i, p, k, t] 27 (B := w.heap.size) rfl
  have hB := hn0
  clear hn0
  obtain ⟨x00, x01, x02, x03, x04, x05⟩ := X0.six
  go_enter Try.func4, Try.ntmps4
  go_wp2_with fail
  refine (awake_any _).mono ?_
  rintro e w1 ⟨rfl, hb1⟩
  clear x00 x01 x02 x03 x04 x05
  replace X0 := X0.later hb1
  replace hB := below_step hB hb1
  clear hb1
  obtain ⟨x00, x01, x02, x03, x04, x05⟩ := X0.six
  go_wp2_with fail
  refine (ruPut_ok hk _).mono ?_
  rintro e w2 ⟨a2, k2, rfl, R2, _, hb2⟩
  clear x00 x01 x02 x03 x04 x05
  replace X0 := X0.later hb2
  replace hB := below_step hB hb2
  clear hb2
  obtain ⟨x00, x01, x02, x03, x04, x05⟩ := X0.six
  obtain ⟨bb, oo, rfl, hbb, _⟩ := R2.cells (by intro h; rw [h] at hb9; cases hb9)
  have hle := R2.le
  have hcap : (s : Int) ≤ (k2 : Int) := by omega
  have RT := R2.take s
  clear R2
  go_wp2_with fail
  refine (ruGet_none _ RT hT (by omega) HG.out (by decide)).mono ?_
  rintro e w3 ⟨rfl, hb3⟩
  clear x00 x01 x02 x03 x04 x05
  replace X0 := X0.later hb3
  replace hB := below_step hB hb3
  clear hb3
  obtain ⟨x00, x01, x02, x03, x04, x05⟩ := X0.six
  have hV := below_new w3 (.cells #[.int .i64 0, .int .i64 0, .int .i64 0, .int .i64 0, .int .i64 0, .int .i64 0] 27)
  go_wp2_with fail
  go_ret
  exact ⟨rfl, below_step hB hV⟩
theorem walk (a n i p k t v : Int) (wa : (Lit.int .i64 a).wf = true) (wn : (Lit.int .i64 n).wf = true) (wi : (Lit.int .i64 i).wf = true) (wp : (Lit.int .i64 p).wf = true) (wk : (Lit.int .i64 k).wf = true) (wt : (Lit.int .i64 t).wf = true) (wv : (Lit.int .i64 v).wf = true) (w : World) :
    Calls Try.prog 4 #[.agg #[.int .i64 a, .int .i64 n, .int .i64 i, .int .i64 p, .int .i64 k, .int .i64 t], .int .i64 v] w fun e w' => e = .returned (.bool true) ∧ Below w.heap.size w w' := by
  cases hk : okR a n i p k t
  · exact short_bad a n i p k t v w hk
  by_cases h1 : v < 0
  · exact short_low a n i p k t v w hk h1
  by_cases h2 : 9 ≤ v
  · exact short_high a n i p k t v w hk h2
  obtain ⟨s, rfl⟩ : ∃ s : Nat, v = s := ⟨v.toNat, by omega⟩
  have hb9 := body_len hk
  have hT : ((bodyR a n i p k t).take s).length = s := by rw [List.length_take, hb9]; omega
  exact short_main a n i p k t s w hk (by omega) hb9 hT (rgE_short (by rw [hT]; omega))

theorem own : ownKnob Try.prog.godebug = none := by kernel_rfl
theorem laidOut : laidOutB Try.prog = true := by kernel_rfl
set_option maxRecDepth 100000 in
theorem lifted (os : Os) (started : os.Started) (H : Type) (enc : TypeId × Value → H) :
    ReturnsInHanded {} Try.checked os 4 .any (Rows.ruleShortSpec.pre6 enc Try.prog Try.f4 Rows.ruleShortRow.domain false) (Rows.ruleShortSpec.post enc Try.prog Try.f4 false true false false) := by
  refine returnsInHanded_of_change (C := Try.checked) own started (by kernel_rfl) Try.func4
    (ChangeSpec.witness6 (enc := enc) (C := Try.checked) false ⟨#[], #[.agg #[.int .i64 0, .int .i64 0, .int .i64 0, .int .i64 0, .int .i64 0, .int .i64 0], .int .i64 0], []⟩ 8 (by kernel_rfl) (by kernel_rfl) (by kernel_rfl) (by kernel_rfl)) ?_
  intro W base args ds gs before hval0 hW hcnd _
  have hval : ∀ (j : Nat) t v, Try.f4.params[j]? = some t → args[j]? = some v → Value.okWide Try.prog W .any base t v := hval0
  have hW' := hW
  obtain ⟨p, q, hA0, hV, rfl, hfz, hnd⟩ := hW
  have hA : DataW.TrodAll enc Try.prog W 0 (fun _ => true) true Try.f4.params.toList args.toList ds p := hA0
  rw [Try.params4] at hA hval
  obtain ⟨v0, vs0, d0, ds0, p0, q0, hargs, rfl, rfl, h0, r0⟩ := trodAll_cons hA
  obtain ⟨v1, vs1, d1, ds1, p1, q1, rfl, rfl, rfl, h1, r1⟩ := trodAll_cons r0
  obtain ⟨rfl, rfl, rfl⟩ := trodAll_nil r1
  obtain rfl : args = #[v0, v1] := by cases args; simp_all
  obtain ⟨rfl, rfl⟩ := trodVars_none hV
  have k0 := h0
  have lt0 : ∀ x ∈ p0, x.block < W.heap.size := by obtain ⟨m, hm⟩ := k0; exact DataW.trod_lt m _ _ _ hm
  have k1 := h1
  have lt1 : ∀ x ∈ p1, x.block < W.heap.size := by obtain ⟨m, hm⟩ := k1; exact DataW.trod_lt m _ _ _ hm
  obtain ⟨a0, b0, c0, d0, e0, f0, rfl, w0a, w0b, w0c, w0d, w0e, w0f⟩ := open_rule (hval 0 27 v0 rfl rfl) h0
  obtain ⟨a1, rfl, rfl, hp1, w1⟩ := open_int Try.underlying3 (hval 1 3 v1 rfl rfl) h1
  clear hA0 hval0
  refine (walk a0 b0 c0 d0 e0 f0 a1 w0a w0b w0c w0d w0e w0f w1 W ).mono fun e W' ⟨he, bel⟩ => ?_
  subst he
  exact ⟨_, rfl, _, _, _, [], _, [], hW', trodAll_mk1 (shut_bool Try.underlying4 _), (trodAll_cons_mk (Below.trod laidOut (by kernel_rfl) (of_decide_eq_true (by kernel_rfl)) k0 bel lt0) (trodAll_cons_mk (Below.trod laidOut (by kernel_rfl) (of_decide_eq_true (by kernel_rfl)) k1 bel lt1) trodAll_mk0)), rfl, bel.frame _, fun h => by cases h⟩

theorem over : Rows.ruleShortRow.holds Try.pinned (OpenSpec.ofChange Rows.ruleShortSpec) :=
  OpenClaim.holds_of_wide 4 Try.f4 rfl rfl rfl rfl rfl rfl rfl ⟨rfl, rfl, rfl, rfl, rfl⟩ rfl rfl rfl rfl rfl (by kernel_rfl) Try.func4 (by kernel_rfl)
    (of_decide_eq_true (by kernel_rfl)) (by unfold Func.isWrapper; first | (rw [if_pos (by decide +kernel)]; kernel_rfl) | (rw [if_neg (by decide +kernel)]; exact ⟨rfl, rfl⟩))
    (fun os started H enc _ => lifted os started H enc)
end Go.Proofs.Ytkpgifpnmccdcab.ruleShort
namespace Go.Proofs.Ytkpgifpnmccdcab
theorem ruleShort_holds : Rows.RuleShortSaid := ruleShort.over
#print axioms ruleShort_holds
end Go.Proofs.Ytkpgifpnmccdcab
