/- Proved: for all ints n and width the call OctetsWide(n, width) returns true: a number in a greater width has noughts in front. No condition. -/
import Derived.Test.YthclgoohhpdgkabOctAwake
import Derived.Test.YthclgoohhpdgkabOctPlain
import Derived.Lib.SmallJoins
namespace Go.Proofs.Ythclgoohhpdgkab.octetsWide
open Go.ChangeShapes Go.WideShapes Go.ChangeAt Go.RowKit O
set_option linter.unusedVariables false


set_option maxHeartbeats 1000000 in
theorem walk (n m : Int) (wn : (Lit.int .i64 n).wf = true) (wm : (Lit.int .i64 m).wf = true) (w : World) :
    Calls Try.prog 4 #[.int .i64 n, .int .i64 m] w fun e w' => e = .returned (.bool true) ∧ Below w.heap.size w w' := by
  clear wn wm
  cases h : okP n m
  · have hE := putE_no h
    go_enter Try.func4, Try.ntmps4
    go_wp2_with (go_at_call 5; refine (awake_any _).mono ?_; rintro e w1 ⟨rfl, hb1⟩)
    refine (put_any n m _).mono ?_
    rintro e w2 ⟨a2, c2, rfl, X2, hb2⟩
    go_wp2_with fail
    refine (put_any n _ _).mono ?_
    rintro e w3 ⟨a3, c3, rfl, X3, hb3⟩
    go_wp2_with fail
    go_ret
    exact ⟨rfl, below_step hb1 (below_step hb2 hb3)⟩
  · have hE := putE_yes h
    have hm := okW_of (okP_of h).1
    obtain ⟨M, rfl⟩ : ∃ M : Nat, m = M := ⟨m.toNat, by omega⟩
    have hlx := putL_len h
    rw [Int.toNat_natCast] at hlx
    by_cases h3 : 3 < M
    · go_enter Try.func4, Try.ntmps4
      go_wp2_with (go_at_call 5; refine (awake_any _).mono ?_; rintro e w1 ⟨rfl, hb1⟩)
      refine (put_any n M _).mono ?_
      rintro e w2 ⟨a2, c2, rfl, X2, hb2⟩
      go_wp2_with fail
      refine (put_any n _ _).mono ?_
      rintro e w3 ⟨a3, c3, rfl, X3, hb3⟩
      go_wp2_with fail
      go_ret
      exact ⟨rfl, below_step hb1 (below_step hb2 hb3)⟩
    · obtain ⟨hw1, hw2⟩ := put_wide h (by omega)
      have hF := putE_yes hw1
      have hM1 : 1 ≤ M := by omega
      go_enter Try.func4, Try.ntmps4
      go_wp2_with (go_at_call 5; refine (awake_any _).mono ?_; rintro e w1 ⟨rfl, hb1⟩)
      refine (put_any n M _).mono ?_
      rintro e w2 ⟨a2, c2, rfl, X2, hb2⟩
      go_wp2_with fail
      refine (put_any n ((M : Int) + 1) _).mono ?_
      rintro e w3 ⟨a3, c3, rfl, X3, hb3⟩
      rw [hw2] at X3
      obtain ⟨b, o, rfl, hbl, hc⟩ := X3.cells (by simp)
      have hc0 := hc 0 (by simp)
      have hc1 := X3.le
      have hc2 := X3.max
      simp at hc0 hc1
      rw [hlx] at hc1
      unfold maxLen at hc2
      have hs1 := run_strs (X2.later hb3)
      have hd := X3.drop 1 (by simp)
      rw [if_neg (by omega)] at hd
      simp [Addr.add_lit] at hd
      have hs2 := run_strs hd
      rw [hlx] at hs1 hs2
      clear hd hc
      have hi0 : (0 : Int) < (M : Int) + 1 := by omega
      go_wp2_with fail
      go_quiet (fail)
      go_wp2_with fail
      go_ret
      exact ⟨rfl, (below_step hb1 (below_step hb2 hb3)).trans (below_draws _ _ _)⟩

theorem own : ownKnob Try.prog.godebug = none := by kernel_rfl
theorem laidOut : laidOutB Try.prog = true := by kernel_rfl
set_option maxRecDepth 100000 in
theorem lifted (os : Os) (started : os.Started) (H : Type) (enc : TypeId × Value → H) :
    ReturnsInHanded {} Try.checked os 4 .any (Rows.octetsWideSpec.pre6 enc Try.prog Try.f4 Rows.octetsWideRow.domain false) (Rows.octetsWideSpec.post enc Try.prog Try.f4 false true false false) := by
  refine returnsInHanded_of_change (C := Try.checked) own started (by kernel_rfl) Try.func4
    (ChangeSpec.witness6 (enc := enc) (C := Try.checked) false ⟨#[], #[.int .i64 0, .int .i64 0], []⟩ 8 (by kernel_rfl) (by kernel_rfl) (by kernel_rfl) (by kernel_rfl)) ?_
  intro W base args ds gs before hval0 hW hcnd _
  have hval : ∀ (j : Nat) t v, Try.f4.params[j]? = some t → args[j]? = some v → Value.okWide Try.prog W .any base t v := hval0
  have hW' := hW
  obtain ⟨p, q, hA0, hV, rfl, hfz, hnd⟩ := hW
  have hA : DataW.TrodAll enc Try.prog W 0 (fun _ => true) true Try.f4.params.toList args.toList ds p := hA0
  rw [Try.params4] at hA hval
  obtain ⟨v0, vs0, d0, ds0, p0, q0, hargs, rfl, rfl, h0, r0⟩ := trodAll_cons hA
  obtain ⟨v1, vs1, d1, ds1, p1, q1, rfl, rfl, rfl, h1, r1⟩ := trodAll_cons r0
  obtain ⟨rfl, rfl, rfl⟩ := trodAll_nil r1
  obtain rfl : args = #[v0, v1] := by cases args; simp_all
  obtain ⟨rfl, rfl⟩ := trodVars_none hV
  have k0 := h0
  have lt0 : ∀ x ∈ p0, x.block < W.heap.size := by obtain ⟨m, hm⟩ := k0; exact DataW.trod_lt m _ _ _ hm
  have k1 := h1
  have lt1 : ∀ x ∈ p1, x.block < W.heap.size := by obtain ⟨m, hm⟩ := k1; exact DataW.trod_lt m _ _ _ hm
  obtain ⟨a0, rfl, rfl, hp0, w0⟩ := open_int Try.underlying3 (hval 0 3 v0 rfl rfl) h0
  obtain ⟨a1, rfl, rfl, hp1, w1⟩ := open_int Try.underlying3 (hval 1 3 v1 rfl rfl) h1
  clear hA0 hval0
  refine (walk a0 a1 w0 w1 W ).mono fun e W' ⟨he, bel⟩ => ?_
  subst he
  exact ⟨_, rfl, _, _, _, [], _, [], hW', trodAll_mk1 (shut_bool Try.underlying4 _), (trodAll_cons_mk (Below.trod laidOut (by kernel_rfl) (of_decide_eq_true (by kernel_rfl)) k0 bel lt0) (trodAll_cons_mk (Below.trod laidOut (by kernel_rfl) (of_decide_eq_true (by kernel_rfl)) k1 bel lt1) trodAll_mk0)), rfl, bel.frame _, fun h => by cases h⟩

theorem over : Rows.octetsWideRow.holds Try.pinned (OpenSpec.ofChange Rows.octetsWideSpec) :=
  OpenClaim.holds_of_wide 4 Try.f4 rfl rfl rfl rfl rfl rfl rfl ⟨rfl, rfl, rfl, rfl, rfl⟩ rfl rfl rfl rfl rfl (by kernel_rfl) Try.func4 (by kernel_rfl)
    (of_decide_eq_true (by kernel_rfl)) (by unfold Func.isWrapper; first | (rw [if_pos (by decide +kernel)]; kernel_rfl) | (rw [if_neg (by decide +kernel)]; exact ⟨rfl, rfl⟩))
    (fun os started H enc _ => lifted os started H enc)
end Go.Proofs.Ythclgoohhpdgkab.octetsWide
namespace Go.Proofs.Ythclgoohhpdgkab
theorem octetsWide_holds : Rows.OctetsWideSaid := octetsWide.over
#print axioms octetsWide_holds
end Go.Proofs.Ythclgoohhpdgkab
