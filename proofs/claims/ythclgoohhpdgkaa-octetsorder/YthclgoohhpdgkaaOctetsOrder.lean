/- Proved: for all ints a, b and width the call OctetsOrder(a, b, width) returns true: in one width the lesser number has the lesser bytes. No condition. -/
import Derived.Test.YthclgoohhpdgkaaOctAwake
import Derived.Test.YthclgoohhpdgkaaOctPlain
import Derived.Lib.SmallJoins
namespace Go.Proofs.Ythclgoohhpdgkaa.octetsOrder
open Go.ChangeShapes Go.WideShapes Go.ChangeAt Go.RowKit O
set_option linter.unusedVariables false


set_option maxHeartbeats 1000000 in
theorem walk (a b m : Int) (wa : (Lit.int .i64 a).wf = true) (wb : (Lit.int .i64 b).wf = true) (wm : (Lit.int .i64 m).wf = true) (w : World) :
    Calls Try.prog 7 #[.int .i64 a, .int .i64 b, .int .i64 m] w fun e w' => e = .returned (.bool true) ∧ Below w.heap.size w w' := by
  clear wa wb wm
  cases ha : okP a m
  · have hE := putE_no ha
    go_enter Try.func7, Try.ntmps7
    go_wp2_with (go_at_call 9; refine (awake_any _).mono ?_; rintro e w1 ⟨rfl, hb1⟩)
    refine (put_any a m _).mono ?_
    rintro e w2 ⟨a2, c2, rfl, X2, hb2⟩
    go_wp2_with fail
    refine (put_any b m _).mono ?_
    rintro e w3 ⟨a3, c3, rfl, X3, hb3⟩
    go_wp2_with fail
    go_ret
    exact ⟨rfl, below_step hb1 (below_step hb2 hb3)⟩
  · cases hb : okP b m
    · have hE := putE_no hb
      have hF := putE_yes ha
      go_enter Try.func7, Try.ntmps7
      go_wp2_with (go_at_call 9; refine (awake_any _).mono ?_; rintro e w1 ⟨rfl, hb1⟩)
      refine (put_any a m _).mono ?_
      rintro e w2 ⟨a2, c2, rfl, X2, hb2⟩
      go_wp2_with fail
      refine (put_any b m _).mono ?_
      rintro e w3 ⟨a3, c3, rfl, X3, hb3⟩
      go_wp2_with fail
      go_ret
      exact ⟨rfl, below_step hb1 (below_step hb2 hb3)⟩
    · have hE := putE_yes hb
      have hF := putE_yes ha
      have hlx := putL_len ha
      have hly := putL_len hb
      have hm := okW_of (okP_of ha).1
      obtain ⟨M, rfl⟩ : ∃ M : Nat, m = M := ⟨m.toNat, by omega⟩
      rw [Int.toNat_natCast] at hlx hly
      have hless := put_less ha hb
      have hsame := put_same ha hb
      go_enter Try.func7, Try.ntmps7
      go_wp2_with (go_at_call 9; refine (awake_any _).mono ?_; rintro e w1 ⟨rfl, hb1⟩)
      refine (put_any a M _).mono ?_
      rintro e w2 ⟨a2, c2, rfl, X2, hb2⟩
      go_wp2_with fail
      refine (put_any b M _).mono ?_
      rintro e w3 ⟨a3, c3, rfl, X3, hb3⟩
      have hs1 := run_str (X2.later hb3)
      have hs2 := run_str X3
      rw [hlx] at hs1
      rw [hly] at hs2
      go_wp2_with fail
      go_ret
      exact ⟨rfl, below_step hb1 (below_step hb2 hb3)⟩

theorem own : ownKnob Try.prog.godebug = none := by kernel_rfl
theorem laidOut : laidOutB Try.prog = true := by kernel_rfl
set_option maxRecDepth 100000 in
theorem lifted (os : Os) (started : os.Started) (H : Type) (enc : TypeId × Value → H) :
    ReturnsInHanded {} Try.checked os 7 .any (Rows.octetsOrderSpec.pre6 enc Try.prog Try.f7 Rows.octetsOrderRow.domain false) (Rows.octetsOrderSpec.post enc Try.prog Try.f7 false true false false) := by
  refine returnsInHanded_of_change (C := Try.checked) own started (by kernel_rfl) Try.func7
    (ChangeSpec.witness6 (enc := enc) (C := Try.checked) false ⟨#[], #[.int .i64 0, .int .i64 0, .int .i64 0], []⟩ 8 (by kernel_rfl) (by kernel_rfl) (by kernel_rfl) (by kernel_rfl)) ?_
  intro W base args ds gs before hval0 hW hcnd _
  have hval : ∀ (j : Nat) t v, Try.f7.params[j]? = some t → args[j]? = some v → Value.okWide Try.prog W .any base t v := hval0
  have hW' := hW
  obtain ⟨p, q, hA0, hV, rfl, hfz, hnd⟩ := hW
  have hA : DataW.TrodAll enc Try.prog W 0 (fun _ => true) true Try.f7.params.toList args.toList ds p := hA0
  rw [Try.params7] at hA hval
  obtain ⟨v0, vs0, d0, ds0, p0, q0, hargs, rfl, rfl, h0, r0⟩ := trodAll_cons hA
  obtain ⟨v1, vs1, d1, ds1, p1, q1, rfl, rfl, rfl, h1, r1⟩ := trodAll_cons r0
  obtain ⟨v2, vs2, d2, ds2, p2, q2, rfl, rfl, rfl, h2, r2⟩ := trodAll_cons r1
  obtain ⟨rfl, rfl, rfl⟩ := trodAll_nil r2
  obtain rfl : args = #[v0, v1, v2] := by cases args; simp_all
  obtain ⟨rfl, rfl⟩ := trodVars_none hV
  have k0 := h0
  have lt0 : ∀ x ∈ p0, x.block < W.heap.size := by obtain ⟨m, hm⟩ := k0; exact DataW.trod_lt m _ _ _ hm
  have k1 := h1
  have lt1 : ∀ x ∈ p1, x.block < W.heap.size := by obtain ⟨m, hm⟩ := k1; exact DataW.trod_lt m _ _ _ hm
  have k2 := h2
  have lt2 : ∀ x ∈ p2, x.block < W.heap.size := by obtain ⟨m, hm⟩ := k2; exact DataW.trod_lt m _ _ _ hm
  obtain ⟨a0, rfl, rfl, hp0, w0⟩ := open_int Try.underlying3 (hval 0 3 v0 rfl rfl) h0
  obtain ⟨a1, rfl, rfl, hp1, w1⟩ := open_int Try.underlying3 (hval 1 3 v1 rfl rfl) h1
  obtain ⟨a2, rfl, rfl, hp2, w2⟩ := open_int Try.underlying3 (hval 2 3 v2 rfl rfl) h2
  clear hA0 hval0
  refine (walk a0 a1 a2 w0 w1 w2 W ).mono fun e W' ⟨he, bel⟩ => ?_
  subst he
  exact ⟨_, rfl, _, _, _, [], _, [], hW', trodAll_mk1 (shut_bool Try.underlying4 _), (trodAll_cons_mk (Below.trod laidOut (by kernel_rfl) (of_decide_eq_true (by kernel_rfl)) k0 bel lt0) (trodAll_cons_mk (Below.trod laidOut (by kernel_rfl) (of_decide_eq_true (by kernel_rfl)) k1 bel lt1) (trodAll_cons_mk (Below.trod laidOut (by kernel_rfl) (of_decide_eq_true (by kernel_rfl)) k2 bel lt2) trodAll_mk0))), rfl, bel.frame _, fun h => by cases h⟩

theorem over : Rows.octetsOrderRow.holds Try.pinned (OpenSpec.ofChange Rows.octetsOrderSpec) :=
  OpenClaim.holds_of_wide 7 Try.f7 rfl rfl rfl rfl rfl rfl rfl ⟨rfl, rfl, rfl, rfl, rfl⟩ rfl rfl rfl rfl rfl (by kernel_rfl) Try.func7 (by kernel_rfl)
    (of_decide_eq_true (by kernel_rfl)) (by unfold Func.isWrapper; first | (rw [if_pos (by decide +kernel)]; kernel_rfl) | (rw [if_neg (by decide +kernel)]; exact ⟨rfl, rfl⟩))
    (fun os started H enc _ => lifted os started H enc)
end Go.Proofs.Ythclgoohhpdgkaa.octetsOrder
namespace Go.Proofs.Ythclgoohhpdgkaa
theorem octetsOrder_holds : Rows.OctetsOrderSaid := octetsOrder.over
#print axioms octetsOrder_holds
end Go.Proofs.Ythclgoohhpdgkaa
