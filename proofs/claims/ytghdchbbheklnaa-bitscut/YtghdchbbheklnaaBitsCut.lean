/- Proved: for all ints a, b, n, more the call BitsCut(a, b, n, more) returns true: an address is of each prefix that it begins with, and of no other one of that length, and a longer one is within it. No condition. -/
import Derived.Test.YtghdchbbheklnaaBitsAwake
import Derived.Lib.SmallJoins
import Derived.Deep.RegionHeld3
namespace Go.Proofs.Ytghdchbbheklnaa.bitsCut
open Go.ChangeShapes Go.WideShapes Go.ChangeAt Go.RowKit M
set_option linter.unusedVariables false

theorem kept {w W w3 : World} {B : Nat} {p0 p1 : Int} (hb : Below W.heap.size W w3) (h : Below w.heap.size w W ∧ B < W.heap.size ∧ W.cell? ⟨B, 0, none⟩ = some (.int .i64 p0) ∧ W.cell? ⟨B, 1, none⟩ = some (.int .i64 p1)) :
    Below w.heap.size w w3 ∧ B < w3.heap.size ∧ w3.cell? ⟨B, 0, none⟩ = some (.int .i64 p0) ∧ w3.cell? ⟨B, 1, none⟩ = some (.int .i64 p1) :=
  ⟨below_step h.1 hb, Nat.lt_of_lt_of_le h.2.1 hb.size, (hb.cell (p := ⟨B, 0, none⟩) h.2.1).trans h.2.2.1, (hb.cell (p := ⟨B, 1, none⟩) h.2.1).trans h.2.2.2⟩
theorem kept_new {w w2 : World} (p0 p1 : Int) (hb : Below w.heap.size w w2) : Below w.heap.size w (w2.alloc (.cells #[.int .i64 p0, .int .i64 p1] 26)).drew ∧ w2.heap.size < (w2.alloc (.cells #[.int .i64 p0, .int .i64 p1] 26)).drew.heap.size ∧
    (w2.alloc (.cells #[.int .i64 p0, .int .i64 p1] 26)).drew.cell? ⟨w2.heap.size, 0, none⟩ = some (.int .i64 p0) ∧ (w2.alloc (.cells #[.int .i64 p0, .int .i64 p1] 26)).drew.cell? ⟨w2.heap.size, 1, none⟩ = some (.int .i64 p1) :=
  ⟨(hb.alloc hb.size _).drew, by simp, by go_simp, by go_simp⟩
set_option maxHeartbeats 2000000 in
theorem core (a b n more : Int) (w : World) (a0 : 0 ≤ a) (a1 : a ≤ 4294967295) (b0 : 0 ≤ b) (b1 : b ≤ 4294967295) (n0 : 0 ≤ n) (m0 : 0 ≤ more) (n1 : n ≤ 32) (m1 : more ≤ 32 - n)
    (z : Bool) (hz : decide (n ≤ (cmN a b : Int)) = z) :
    Calls Try.prog 6 #[.int .i64 a, .int .i64 b, .int .i64 n, .int .i64 more] w fun e w' => e = .returned (.bool true) ∧ Below w.heap.size w w' := by
  have hc1 : cl n = n := cl_id n0 n1
  have hc2 : cl (n + more) = n + more := cl_id (by omega) (by omega)
  have hw : IntKind.i64.wrap (n + more) = n + more := by rw [IntKind.wrap_i64]; omega
  have e1 := may_cut a n hc1
  have e2 := has_cut a n hc1
  have e3 := has_cut_b a b n hc1
  rw [hz] at e3
  have e4 := in_cut a n (n + more) hc1 hc2 (by omega)
  go_enter Try.func6, Try.ntmps6
  go_wp2_with (first | (go_at_call 9; refine (awake_any _).mono ?_; rintro e w1 ⟨rfl, hb1⟩) | (go_at_call 16; refine (cut_any _ _ _).mono ?_; rintro e w2 ⟨rfl, hb2⟩))
  have S0 := kept_new (ct a n) n (below_step hb1 hb2)
  go_region_held3 (fun w' => Below w.heap.size w w' ∧ w2.heap.size < w'.heap.size ∧ w'.cell? ⟨w2.heap.size, 0, none⟩ = some (.int .i64 (ct a n)) ∧ w'.cell? ⟨w2.heap.size, 1, none⟩ = some (.int .i64 n)) (first | assumption | exact kept (by assumption) (by assumption))
    (first | (go_at_call 12; refine (common_any _ _ _).mono ?_; rintro e w3 ⟨rfl, rfl⟩) | (go_at_call 21; refine (may_any _ _ _).mono ?_; rintro e w3 ⟨rfl, hb⟩) | (go_at_call 22; refine (has_any _ _ _ _).mono ?_; rintro e w3 ⟨rfl, hb⟩) | (go_at_call 23; refine (within_any _ _ _ _ _).mono ?_; rintro e w3 ⟨rfl, hb⟩) | (go_at_call 16; refine (cut_any _ _ _).mono ?_; rintro e w3 ⟨rfl, hb⟩))
  all_goals go_wp2
  all_goals go_ret
  all_goals exact ⟨rfl, (‹Below w.heap.size w w3 ∧ _›).1⟩

set_option maxHeartbeats 1000000 in
theorem walk (a b n more : Int) (w0 : (Lit.int .i64 a).wf = true) (w1 : (Lit.int .i64 b).wf = true) (w2 : (Lit.int .i64 n).wf = true) (w3 : (Lit.int .i64 more).wf = true) (w : World) :
    Calls Try.prog 6 #[.int .i64 a, .int .i64 b, .int .i64 n, .int .i64 more] w fun e w' => e = .returned (.bool true) ∧ Below w.heap.size w w' := by
  have bd2 := bounds_i64 w2
  clear w0 w1 w2 w3
  by_cases h1 : a < 0
  · go_enter Try.func6, Try.ntmps6
    go_wp2_with (go_at_call 9; refine (awake_any _).mono ?_; rintro e w1 ⟨rfl, hb⟩)
    go_ret
    exact ⟨rfl, hb⟩
  by_cases h2 : 4294967295 < a
  · go_enter Try.func6, Try.ntmps6
    go_wp2_with (go_at_call 9; refine (awake_any _).mono ?_; rintro e w1 ⟨rfl, hb⟩)
    go_ret
    exact ⟨rfl, hb⟩
  by_cases h3 : b < 0
  · go_enter Try.func6, Try.ntmps6
    go_wp2_with (go_at_call 9; refine (awake_any _).mono ?_; rintro e w1 ⟨rfl, hb⟩)
    go_ret
    exact ⟨rfl, hb⟩
  by_cases h4 : 4294967295 < b
  · go_enter Try.func6, Try.ntmps6
    go_wp2_with (go_at_call 9; refine (awake_any _).mono ?_; rintro e w1 ⟨rfl, hb⟩)
    go_ret
    exact ⟨rfl, hb⟩
  by_cases h5 : n < 0
  · go_enter Try.func6, Try.ntmps6
    go_wp2_with (go_at_call 9; refine (awake_any _).mono ?_; rintro e w1 ⟨rfl, hb⟩)
    go_ret
    exact ⟨rfl, hb⟩
  by_cases h6 : more < 0
  · go_enter Try.func6, Try.ntmps6
    go_wp2_with (go_at_call 9; refine (awake_any _).mono ?_; rintro e w1 ⟨rfl, hb⟩)
    go_ret
    exact ⟨rfl, hb⟩
  by_cases h7 : 32 < n
  · go_enter Try.func6, Try.ntmps6
    go_wp2_with (go_at_call 9; refine (awake_any _).mono ?_; rintro e w1 ⟨rfl, hb⟩)
    go_ret
    exact ⟨rfl, hb⟩
  by_cases h8 : 32 - n < more
  · go_enter Try.func6, Try.ntmps6
    go_wp2_with (go_at_call 9; refine (awake_any _).mono ?_; rintro e w1 ⟨rfl, hb⟩)
    go_ret
    exact ⟨rfl, hb⟩
  exact core a b n more w (by omega) (by omega) (by omega) (by omega) (by omega) (by omega) (by omega) (by omega) _ rfl


theorem own : ownKnob Try.prog.godebug = none := by kernel_rfl
theorem laidOut : laidOutB Try.prog = true := by kernel_rfl
set_option maxRecDepth 100000 in
theorem lifted (os : Os) (started : os.Started) (H : Type) (enc : TypeId × Value → H) :
    ReturnsInHanded {} Try.checked os 6 .any (Rows.bitsCutSpec.pre6 enc Try.prog Try.f6 Rows.bitsCutRow.domain false) (Rows.bitsCutSpec.post enc Try.prog Try.f6 false true false false) := by
  refine returnsInHanded_of_change (C := Try.checked) own started (by kernel_rfl) Try.func6
    (ChangeSpec.witness6 (enc := enc) (C := Try.checked) false ⟨#[], #[.int .i64 0, .int .i64 0, .int .i64 0, .int .i64 0], []⟩ 8 (by kernel_rfl) (by kernel_rfl) (by kernel_rfl) (by kernel_rfl)) ?_
  intro W base args ds gs before hval0 hW hcnd _
  have hval : ∀ (j : Nat) t v, Try.f6.params[j]? = some t → args[j]? = some v → Value.okWide Try.prog W .any base t v := hval0
  have hW' := hW
  obtain ⟨p, q, hA0, hV, rfl, hfz, hnd⟩ := hW
  have hA : DataW.TrodAll enc Try.prog W 0 (fun _ => true) true Try.f6.params.toList args.toList ds p := hA0
  rw [Try.params6] at hA hval
  obtain ⟨v0, vs0, d0, ds0, p0, q0, hargs, rfl, rfl, h0, r0⟩ := trodAll_cons hA
  obtain ⟨v1, vs1, d1, ds1, p1, q1, rfl, rfl, rfl, h1, r1⟩ := trodAll_cons r0
  obtain ⟨v2, vs2, d2, ds2, p2, q2, rfl, rfl, rfl, h2, r2⟩ := trodAll_cons r1
  obtain ⟨v3, vs3, d3, ds3, p3, q3, rfl, rfl, rfl, h3, r3⟩ := trodAll_cons r2
  obtain ⟨rfl, rfl, rfl⟩ := trodAll_nil r3
  obtain rfl : args = #[v0, v1, v2, v3] := by cases args; simp_all
  obtain ⟨rfl, rfl⟩ := trodVars_none hV
  have k0 := h0
  have lt0 : ∀ x ∈ p0, x.block < W.heap.size := by obtain ⟨m, hm⟩ := k0; exact DataW.trod_lt m _ _ _ hm
  have k1 := h1
  have lt1 : ∀ x ∈ p1, x.block < W.heap.size := by obtain ⟨m, hm⟩ := k1; exact DataW.trod_lt m _ _ _ hm
  have k2 := h2
  have lt2 : ∀ x ∈ p2, x.block < W.heap.size := by obtain ⟨m, hm⟩ := k2; exact DataW.trod_lt m _ _ _ hm
  have k3 := h3
  have lt3 : ∀ x ∈ p3, x.block < W.heap.size := by obtain ⟨m, hm⟩ := k3; exact DataW.trod_lt m _ _ _ hm
  obtain ⟨a0, rfl, rfl, hp0, w0⟩ := open_int Try.underlying3 (hval 0 3 v0 rfl rfl) h0
  obtain ⟨a1, rfl, rfl, hp1, w1⟩ := open_int Try.underlying3 (hval 1 3 v1 rfl rfl) h1
  obtain ⟨a2, rfl, rfl, hp2, w2⟩ := open_int Try.underlying3 (hval 2 3 v2 rfl rfl) h2
  obtain ⟨a3, rfl, rfl, hp3, w3⟩ := open_int Try.underlying3 (hval 3 3 v3 rfl rfl) h3
  clear hA0 hval0
  refine (walk a0 a1 a2 a3 w0 w1 w2 w3 W).mono fun e W' ⟨he, bel⟩ => ?_
  subst he
  exact ⟨_, rfl, _, _, _, [], _, [], hW', trodAll_mk1 (shut_bool Try.underlying4 _), (trodAll_cons_mk (Below.trod laidOut (by kernel_rfl) (of_decide_eq_true (by kernel_rfl)) k0 bel lt0) (trodAll_cons_mk (Below.trod laidOut (by kernel_rfl) (of_decide_eq_true (by kernel_rfl)) k1 bel lt1) (trodAll_cons_mk (Below.trod laidOut (by kernel_rfl) (of_decide_eq_true (by kernel_rfl)) k2 bel lt2) (trodAll_cons_mk (Below.trod laidOut (by kernel_rfl) (of_decide_eq_true (by kernel_rfl)) k3 bel lt3) trodAll_mk0)))), rfl, bel.frame _, fun h => by cases h⟩

theorem over : Rows.bitsCutRow.holds Try.pinned (OpenSpec.ofChange Rows.bitsCutSpec) :=
  OpenClaim.holds_of_wide 6 Try.f6 rfl rfl rfl rfl rfl rfl rfl ⟨rfl, rfl, rfl, rfl, rfl⟩ rfl rfl rfl rfl rfl (by kernel_rfl) Try.func6 (by kernel_rfl)
    (of_decide_eq_true (by kernel_rfl)) (by unfold Func.isWrapper; first | (rw [if_pos (by decide +kernel)]; kernel_rfl) | (rw [if_neg (by decide +kernel)]; exact ⟨rfl, rfl⟩))
    (fun os started H enc _ => lifted os started H enc)
end Go.Proofs.Ytghdchbbheklnaa.bitsCut
namespace Go.Proofs.Ytghdchbbheklnaa
theorem bitsCut_holds : Rows.BitsCutSaid := bitsCut.over
#print axioms bitsCut_holds
end Go.Proofs.Ytghdchbbheklnaa
