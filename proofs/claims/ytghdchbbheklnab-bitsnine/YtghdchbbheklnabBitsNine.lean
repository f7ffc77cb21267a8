/- Proved: for all ints a, n the call BitsNine(a, n) returns true: of numbers that are no addresses the last 32 bits count, and lengths beyond 0 and 32 are bounded. No condition. -/
import Derived.Test.YtghdchbbheklnabBitsAwake
import Derived.Test.YtghdchbbheklnabBitsRefs
import Derived.Lib.SmallJoins
namespace Go.Proofs.Ytghdchbbheklnab.bitsNine
open Go.ChangeShapes Go.WideShapes Go.ChangeAt Go.RowKit M
set_option linter.unusedVariables false

set_option maxHeartbeats 1000000 in
theorem walk (a n : Int) (w0 : (Lit.int .i64 a).wf = true) (w1 : (Lit.int .i64 n).wf = true) (w : World) :
    Calls Try.prog 4 #[.int .i64 a, .int .i64 n] w fun e w' => e = .returned (.bool true) ∧ Below w.heap.size w w' := by
  clear w0 w1
  have S := Below.refl w.heap.size w
  have heq := eq_prefix
  have hl := i64_low a
  have hm : ∀ k, ct (a % 4294967296) k = ct a k := ct_mod a
  have hc : cmN a (a % 4294967296) = 32 := (cm_32 _ _).2 (Int.emod_emod_of_dvd _ (Int.dvd_refl _)).symm
  have c0 : cl 0 = 0 := by decide
  have c32 : cl 32 = 32 := by decide
  by_cases h1 : n < 0
  · have k1 : cl n = 0 := by unfold cl; rw [if_pos h1]
    have k2 : ct a n = ct a 0 := by rw [← ct_cl a n, k1]
    have k3 : hd n = hd 0 := by rw [← hd_cl n, k1]
    go_enter Try.func4, Try.ntmps4
    go_wp2_with (first | (go_at_call 5; refine (awake_any _).mono ?_; rintro e w1 ⟨rfl, hb⟩; replace S := below_step S hb) | (go_at_call 7; refine (cut_any _ _ _).mono ?_; rintro e w1 ⟨rfl, hb⟩; replace S := below_step S hb) | (go_at_call 9; refine (mask_any _ _).mono ?_; rintro e w' ⟨rfl, rfl⟩) | (go_at_call 10; refine (rmask_any _ _).mono ?_; rintro e w' ⟨rfl, rfl⟩) | (go_at_call 11; refine (common_any _ _ _).mono ?_; rintro e w' ⟨rfl, rfl⟩))
    go_ret
    exact ⟨rfl, S⟩
  by_cases h2 : 32 < n
  · have k1 : cl n = 32 := by unfold cl; rw [if_neg h1, if_pos h2]
    have k2 : ct a n = ct a 32 := by rw [← ct_cl a n, k1]
    have k3 : hd n = hd 32 := by rw [← hd_cl n, k1]
    go_enter Try.func4, Try.ntmps4
    go_wp2_with (first | (go_at_call 5; refine (awake_any _).mono ?_; rintro e w1 ⟨rfl, hb⟩; replace S := below_step S hb) | (go_at_call 7; refine (cut_any _ _ _).mono ?_; rintro e w1 ⟨rfl, hb⟩; replace S := below_step S hb) | (go_at_call 9; refine (mask_any _ _).mono ?_; rintro e w' ⟨rfl, rfl⟩) | (go_at_call 10; refine (rmask_any _ _).mono ?_; rintro e w' ⟨rfl, rfl⟩) | (go_at_call 11; refine (common_any _ _ _).mono ?_; rintro e w' ⟨rfl, rfl⟩))
    go_ret
    exact ⟨rfl, S⟩
  go_enter Try.func4, Try.ntmps4
  go_wp2_with (first | (go_at_call 5; refine (awake_any _).mono ?_; rintro e w1 ⟨rfl, hb⟩; replace S := below_step S hb) | (go_at_call 7; refine (cut_any _ _ _).mono ?_; rintro e w1 ⟨rfl, hb⟩; replace S := below_step S hb) | (go_at_call 9; refine (mask_any _ _).mono ?_; rintro e w' ⟨rfl, rfl⟩) | (go_at_call 10; refine (rmask_any _ _).mono ?_; rintro e w' ⟨rfl, rfl⟩) | (go_at_call 11; refine (common_any _ _ _).mono ?_; rintro e w' ⟨rfl, rfl⟩))
  go_ret
  exact ⟨rfl, S⟩


theorem own : ownKnob Try.prog.godebug = none := by kernel_rfl
theorem laidOut : laidOutB Try.prog = true := by kernel_rfl
set_option maxRecDepth 100000 in
theorem lifted (os : Os) (started : os.Started) (H : Type) (enc : TypeId × Value → H) :
    ReturnsInHanded {} Try.checked os 4 .any (Rows.bitsNineSpec.pre6 enc Try.prog Try.f4 Rows.bitsNineRow.domain false) (Rows.bitsNineSpec.post enc Try.prog Try.f4 false true false false) := by
  refine returnsInHanded_of_change (C := Try.checked) own started (by kernel_rfl) Try.func4
    (ChangeSpec.witness6 (enc := enc) (C := Try.checked) false ⟨#[], #[.int .i64 0, .int .i64 0], []⟩ 8 (by kernel_rfl) (by kernel_rfl) (by kernel_rfl) (by kernel_rfl)) ?_
  intro W base args ds gs before hval0 hW hcnd _
  have hval : ∀ (j : Nat) t v, Try.f4.params[j]? = some t → args[j]? = some v → Value.okWide Try.prog W .any base t v := hval0
  have hW' := hW
  obtain ⟨p, q, hA0, hV, rfl, hfz, hnd⟩ := hW
  have hA : DataW.TrodAll enc Try.prog W 0 (fun _ => true) true Try.f4.params.toList args.toList ds p := hA0
  rw [Try.params4] at hA hval
  obtain ⟨v0, vs0, d0, ds0, p0, q0, hargs, rfl, rfl, h0, r0⟩ := trodAll_cons hA
  obtain ⟨v1, vs1, d1, ds1, p1, q1, rfl, rfl, rfl, h1, r1⟩ := trodAll_cons r0
  obtain ⟨rfl, rfl, rfl⟩ := trodAll_nil r1
  obtain rfl : args = #[v0, v1] := by cases args; simp_all
  obtain ⟨rfl, rfl⟩ := trodVars_none hV
  have k0 := h0
  have lt0 : ∀ x ∈ p0, x.block < W.heap.size := by obtain ⟨m, hm⟩ := k0; exact DataW.trod_lt m _ _ _ hm
  have k1 := h1
  have lt1 : ∀ x ∈ p1, x.block < W.heap.size := by obtain ⟨m, hm⟩ := k1; exact DataW.trod_lt m _ _ _ hm
  obtain ⟨a0, rfl, rfl, hp0, w0⟩ := open_int Try.underlying3 (hval 0 3 v0 rfl rfl) h0
  obtain ⟨a1, rfl, rfl, hp1, w1⟩ := open_int Try.underlying3 (hval 1 3 v1 rfl rfl) h1
  clear hA0 hval0
  refine (walk a0 a1 w0 w1 W).mono fun e W' ⟨he, bel⟩ => ?_
  subst he
  exact ⟨_, rfl, _, _, _, [], _, [], hW', trodAll_mk1 (shut_bool Try.underlying4 _), (trodAll_cons_mk (Below.trod laidOut (by kernel_rfl) (of_decide_eq_true (by kernel_rfl)) k0 bel lt0) (trodAll_cons_mk (Below.trod laidOut (by kernel_rfl) (of_decide_eq_true (by kernel_rfl)) k1 bel lt1) trodAll_mk0)), rfl, bel.frame _, fun h => by cases h⟩

theorem over : Rows.bitsNineRow.holds Try.pinned (OpenSpec.ofChange Rows.bitsNineSpec) :=
  OpenClaim.holds_of_wide 4 Try.f4 rfl rfl rfl rfl rfl rfl rfl ⟨rfl, rfl, rfl, rfl, rfl⟩ rfl rfl rfl rfl rfl (by kernel_rfl) Try.func4 (by kernel_rfl)
    (of_decide_eq_true (by kernel_rfl)) (by unfold Func.isWrapper; first | (rw [if_pos (by decide +kernel)]; kernel_rfl) | (rw [if_neg (by decide +kernel)]; exact ⟨rfl, rfl⟩))
    (fun os started H enc _ => lifted os started H enc)
end Go.Proofs.Ytghdchbbheklnab.bitsNine
namespace Go.Proofs.Ytghdchbbheklnab
theorem bitsNine_holds : Rows.BitsNineSaid := bitsNine.over
#print axioms bitsNine_holds
end Go.Proofs.Ytghdchbbheklnab
