/- Proved: for all ints a, b, n, m the call BitsChain(a, b, n, m) returns true: the prefixes of an address are within each other, the longer ones in the shorter ones, and the one of length 0 has all. No condition. -/
import Derived.Test.YtghdchbbheklnabBitsAwake
import Derived.Lib.SmallJoins
namespace Go.Proofs.Ytghdchbbheklnab.bitsChain
open Go.ChangeShapes Go.WideShapes Go.ChangeAt Go.RowKit M
set_option linter.unusedVariables false

set_option maxHeartbeats 1000000 in
theorem walk (a b n m : Int) (w0 : (Lit.int .i64 a).wf = true) (w1 : (Lit.int .i64 b).wf = true) (w2 : (Lit.int .i64 n).wf = true) (w3 : (Lit.int .i64 m).wf = true) (w : World) :
    Calls Try.prog 3 #[.int .i64 a, .int .i64 b, .int .i64 n, .int .i64 m] w fun e w' => e = .returned (.bool true) ∧ Below w.heap.size w w' := by
  clear w0 w1 w2 w3
  have S := Below.refl w.heap.size w
  by_cases h1 : a < 0
  · go_enter Try.func3, Try.ntmps3
    go_wp2_with (first | (go_at_call 5; refine (awake_any _).mono ?_; rintro e w1 ⟨rfl, hb⟩; replace S := below_step S hb) | (go_at_call 7; refine (cut_any _ _ _).mono ?_; rintro e w1 ⟨rfl, hb⟩; replace S := below_step S hb) | (go_at_call 8; refine (has_any _ _ _ _).mono ?_; rintro e w1 ⟨rfl, hb⟩; replace S := below_step S hb) | (go_at_call 6; refine (within_any _ _ _ _ _).mono ?_; rintro e w1 ⟨rfl, hb⟩; replace S := below_step S hb))
    go_ret
    exact ⟨rfl, S⟩
  by_cases h2 : 4294967295 < a
  · go_enter Try.func3, Try.ntmps3
    go_wp2_with (first | (go_at_call 5; refine (awake_any _).mono ?_; rintro e w1 ⟨rfl, hb⟩; replace S := below_step S hb) | (go_at_call 7; refine (cut_any _ _ _).mono ?_; rintro e w1 ⟨rfl, hb⟩; replace S := below_step S hb) | (go_at_call 8; refine (has_any _ _ _ _).mono ?_; rintro e w1 ⟨rfl, hb⟩; replace S := below_step S hb) | (go_at_call 6; refine (within_any _ _ _ _ _).mono ?_; rintro e w1 ⟨rfl, hb⟩; replace S := below_step S hb))
    go_ret
    exact ⟨rfl, S⟩
  by_cases h3 : b < 0
  · go_enter Try.func3, Try.ntmps3
    go_wp2_with (first | (go_at_call 5; refine (awake_any _).mono ?_; rintro e w1 ⟨rfl, hb⟩; replace S := below_step S hb) | (go_at_call 7; refine (cut_any _ _ _).mono ?_; rintro e w1 ⟨rfl, hb⟩; replace S := below_step S hb) | (go_at_call 8; refine (has_any _ _ _ _).mono ?_; rintro e w1 ⟨rfl, hb⟩; replace S := below_step S hb) | (go_at_call 6; refine (within_any _ _ _ _ _).mono ?_; rintro e w1 ⟨rfl, hb⟩; replace S := below_step S hb))
    go_ret
    exact ⟨rfl, S⟩
  by_cases h4 : 4294967295 < b
  · go_enter Try.func3, Try.ntmps3
    go_wp2_with (first | (go_at_call 5; refine (awake_any _).mono ?_; rintro e w1 ⟨rfl, hb⟩; replace S := below_step S hb) | (go_at_call 7; refine (cut_any _ _ _).mono ?_; rintro e w1 ⟨rfl, hb⟩; replace S := below_step S hb) | (go_at_call 8; refine (has_any _ _ _ _).mono ?_; rintro e w1 ⟨rfl, hb⟩; replace S := below_step S hb) | (go_at_call 6; refine (within_any _ _ _ _ _).mono ?_; rintro e w1 ⟨rfl, hb⟩; replace S := below_step S hb))
    go_ret
    exact ⟨rfl, S⟩
  by_cases h5 : n < 0
  · go_enter Try.func3, Try.ntmps3
    go_wp2_with (first | (go_at_call 5; refine (awake_any _).mono ?_; rintro e w1 ⟨rfl, hb⟩; replace S := below_step S hb) | (go_at_call 7; refine (cut_any _ _ _).mono ?_; rintro e w1 ⟨rfl, hb⟩; replace S := below_step S hb) | (go_at_call 8; refine (has_any _ _ _ _).mono ?_; rintro e w1 ⟨rfl, hb⟩; replace S := below_step S hb) | (go_at_call 6; refine (within_any _ _ _ _ _).mono ?_; rintro e w1 ⟨rfl, hb⟩; replace S := below_step S hb))
    go_ret
    exact ⟨rfl, S⟩
  by_cases h6 : m < n
  · go_enter Try.func3, Try.ntmps3
    go_wp2_with (first | (go_at_call 5; refine (awake_any _).mono ?_; rintro e w1 ⟨rfl, hb⟩; replace S := below_step S hb) | (go_at_call 7; refine (cut_any _ _ _).mono ?_; rintro e w1 ⟨rfl, hb⟩; replace S := below_step S hb) | (go_at_call 8; refine (has_any _ _ _ _).mono ?_; rintro e w1 ⟨rfl, hb⟩; replace S := below_step S hb) | (go_at_call 6; refine (within_any _ _ _ _ _).mono ?_; rintro e w1 ⟨rfl, hb⟩; replace S := below_step S hb))
    go_ret
    exact ⟨rfl, S⟩
  by_cases h7 : 32 < m
  · go_enter Try.func3, Try.ntmps3
    go_wp2_with (first | (go_at_call 5; refine (awake_any _).mono ?_; rintro e w1 ⟨rfl, hb⟩; replace S := below_step S hb) | (go_at_call 7; refine (cut_any _ _ _).mono ?_; rintro e w1 ⟨rfl, hb⟩; replace S := below_step S hb) | (go_at_call 8; refine (has_any _ _ _ _).mono ?_; rintro e w1 ⟨rfl, hb⟩; replace S := below_step S hb) | (go_at_call 6; refine (within_any _ _ _ _ _).mono ?_; rintro e w1 ⟨rfl, hb⟩; replace S := below_step S hb))
    go_ret
    exact ⟨rfl, S⟩
  have hc1 : cl n = n := cl_id (by omega) (by omega)
  have hc2 : cl m = m := cl_id (by omega) (by omega)
  have c0 : cl 0 = 0 := by decide
  have c32 : cl 32 = 32 := by decide
  have e1 := in_cut a n m hc1 hc2 (by omega)
  have e2 : hasB (ct a 0) 0 b = true := hasB_iff.2 ⟨c0, by rw [ct_zero, ct_zero]⟩
  have e3 : hasB (ct a 32) 32 b = (a == b) := by
    rw [Bool.eq_iff_iff, hasB_iff, ct_all, ct_all, Int.emod_eq_of_lt (by omega) (by omega), Int.emod_eq_of_lt (by omega) (by omega)]
    simp [c32]; exact eq_comm
  go_enter Try.func3, Try.ntmps3
  go_wp2_with (first | (go_at_call 5; refine (awake_any _).mono ?_; rintro e w1 ⟨rfl, hb⟩; replace S := below_step S hb) | (go_at_call 7; refine (cut_any _ _ _).mono ?_; rintro e w1 ⟨rfl, hb⟩; replace S := below_step S hb) | (go_at_call 8; refine (has_any _ _ _ _).mono ?_; rintro e w1 ⟨rfl, hb⟩; replace S := below_step S hb) | (go_at_call 6; refine (within_any _ _ _ _ _).mono ?_; rintro e w1 ⟨rfl, hb⟩; replace S := below_step S hb))
  go_ret
  exact ⟨rfl, S⟩


theorem own : ownKnob Try.prog.godebug = none := by kernel_rfl
theorem laidOut : laidOutB Try.prog = true := by kernel_rfl
set_option maxRecDepth 100000 in
theorem lifted (os : Os) (started : os.Started) (H : Type) (enc : TypeId × Value → H) :
    ReturnsInHanded {} Try.checked os 3 .any (Rows.bitsChainSpec.pre6 enc Try.prog Try.f3 Rows.bitsChainRow.domain false) (Rows.bitsChainSpec.post enc Try.prog Try.f3 false true false false) := by
  refine returnsInHanded_of_change (C := Try.checked) own started (by kernel_rfl) Try.func3
    (ChangeSpec.witness6 (enc := enc) (C := Try.checked) false ⟨#[], #[.int .i64 0, .int .i64 0, .int .i64 0, .int .i64 0], []⟩ 8 (by kernel_rfl) (by kernel_rfl) (by kernel_rfl) (by kernel_rfl)) ?_
  intro W base args ds gs before hval0 hW hcnd _
  have hval : ∀ (j : Nat) t v, Try.f3.params[j]? = some t → args[j]? = some v → Value.okWide Try.prog W .any base t v := hval0
  have hW' := hW
  obtain ⟨p, q, hA0, hV, rfl, hfz, hnd⟩ := hW
  have hA : DataW.TrodAll enc Try.prog W 0 (fun _ => true) true Try.f3.params.toList args.toList ds p := hA0
  rw [Try.params3] at hA hval
  obtain ⟨v0, vs0, d0, ds0, p0, q0, hargs, rfl, rfl, h0, r0⟩ := trodAll_cons hA
  obtain ⟨v1, vs1, d1, ds1, p1, q1, rfl, rfl, rfl, h1, r1⟩ := trodAll_cons r0
  obtain ⟨v2, vs2, d2, ds2, p2, q2, rfl, rfl, rfl, h2, r2⟩ := trodAll_cons r1
  obtain ⟨v3, vs3, d3, ds3, p3, q3, rfl, rfl, rfl, h3, r3⟩ := trodAll_cons r2
  obtain ⟨rfl, rfl, rfl⟩ := trodAll_nil r3
  obtain rfl : args = #[v0, v1, v2, v3] := by cases args; simp_all
  obtain ⟨rfl, rfl⟩ := trodVars_none hV
  have k0 := h0
  have lt0 : ∀ x ∈ p0, x.block < W.heap.size := by obtain ⟨m, hm⟩ := k0; exact DataW.trod_lt m _ _ _ hm
  have k1 := h1
  have lt1 : ∀ x ∈ p1, x.block < W.heap.size := by obtain ⟨m, hm⟩ := k1; exact DataW.trod_lt m _ _ _ hm
  have k2 := h2
  have lt2 : ∀ x ∈ p2, x.block < W.heap.size := by obtain ⟨m, hm⟩ := k2; exact DataW.trod_lt m _ _ _ hm
  have k3 := h3
  have lt3 : ∀ x ∈ p3, x.block < W.heap.size := by obtain ⟨m, hm⟩ := k3; exact DataW.trod_lt m _ _ _ hm
  obtain ⟨a0, rfl, rfl, hp0, w0⟩ := open_int Try.underlying3 (hval 0 3 v0 rfl rfl) h0
  obtain ⟨a1, rfl, rfl, hp1, w1⟩ := open_int Try.underlying3 (hval 1 3 v1 rfl rfl) h1
  obtain ⟨a2, rfl, rfl, hp2, w2⟩ := open_int Try.underlying3 (hval 2 3 v2 rfl rfl) h2
  obtain ⟨a3, rfl, rfl, hp3, w3⟩ := open_int Try.underlying3 (hval 3 3 v3 rfl rfl) h3
  clear hA0 hval0
  refine (walk a0 a1 a2 a3 w0 w1 w2 w3 W).mono fun e W' ⟨he, bel⟩ => ?_
  subst he
  exact ⟨_, rfl, _, _, _, [], _, [], hW', trodAll_mk1 (shut_bool Try.underlying4 _), (trodAll_cons_mk (Below.trod laidOut (by kernel_rfl) (of_decide_eq_true (by kernel_rfl)) k0 bel lt0) (trodAll_cons_mk (Below.trod laidOut (by kernel_rfl) (of_decide_eq_true (by kernel_rfl)) k1 bel lt1) (trodAll_cons_mk (Below.trod laidOut (by kernel_rfl) (of_decide_eq_true (by kernel_rfl)) k2 bel lt2) (trodAll_cons_mk (Below.trod laidOut (by kernel_rfl) (of_decide_eq_true (by kernel_rfl)) k3 bel lt3) trodAll_mk0)))), rfl, bel.frame _, fun h => by cases h⟩

theorem over : Rows.bitsChainRow.holds Try.pinned (OpenSpec.ofChange Rows.bitsChainSpec) :=
  OpenClaim.holds_of_wide 3 Try.f3 rfl rfl rfl rfl rfl rfl rfl ⟨rfl, rfl, rfl, rfl, rfl⟩ rfl rfl rfl rfl rfl (by kernel_rfl) Try.func3 (by kernel_rfl)
    (of_decide_eq_true (by kernel_rfl)) (by unfold Func.isWrapper; first | (rw [if_pos (by decide +kernel)]; kernel_rfl) | (rw [if_neg (by decide +kernel)]; exact ⟨rfl, rfl⟩))
    (fun os started H enc _ => lifted os started H enc)
end Go.Proofs.Ytghdchbbheklnab.bitsChain
namespace Go.Proofs.Ytghdchbbheklnab
theorem bitsChain_holds : Rows.BitsChainSaid := bitsChain.over
#print axioms bitsChain_holds
end Go.Proofs.Ytghdchbbheklnab
