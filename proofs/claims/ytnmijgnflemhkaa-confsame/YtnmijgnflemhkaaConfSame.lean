/- Proved: for all three configurations of at most 10 lists of at most 60 rules the call ConfSame(a, b, c) returns true (else nothing is asked). -/
import Derived.Test.YtnmijgnflemhkaaConfCode
import Derived.Test.YtnmijgnflemhkaaTopOpen
import Derived.Test.YtnmijgnflemhkaaConfSameOf
import Derived.Lib.SmallJoins
namespace Go.Proofs.Ytnmijgnflemhkaa.confSame
open Go.ChangeShapes Go.WideShapes Go.ChangeAt Go.RowKit Go.Maps Pk Cf
set_option linter.unusedVariables false
set_option linter.unusedSimpArgs false

theorem walk (a1 : Option Addr) (c1 : Nat) (A1 : Cnf) (a2 : Option Addr) (c2 : Nat) (A2 : Cnf) (a3 : Option Addr) (c3 : Nat) (A3 : Cnf) (w : World) (V1 : Lists w a1 c1 A1) (V2 : Lists w a2 c2 A2) (V3 : Lists w a3 c3 A3) :
    Calls Try.prog 7 #[.slice a1 A1.length c1, .slice a2 A2.length c2, .slice a3 A3.length c3] w fun e w' => e = .returned (.bool true) ∧ Below w.heap.size w w' := confSame_of code a1 c1 A1 a2 c2 A2 a3 c3 A3 w V1 V2 V3
theorem own : ownKnob Try.prog.godebug = none := by kernel_rfl
theorem laidOut : laidOutB Try.prog = true := by kernel_rfl
set_option maxRecDepth 100000 in
theorem lifted (os : Os) (started : os.Started) (H : Type) (enc : TypeId × Value → H) :
    ReturnsInHanded {} Try.checked os 7 .any (Rows.confSameSpec.pre6 enc Try.prog Try.f7 Rows.confSameRow.domain false) (Rows.confSameSpec.post enc Try.prog Try.f7 false true false false) := by
  refine returnsInHanded_of_change (C := Try.checked) own started (by kernel_rfl) Try.func7
    (ChangeSpec.witness6 (enc := enc) (C := Try.checked) false ⟨#[], #[.slice none 0 0, .slice none 0 0, .slice none 0 0], []⟩ 8 (by kernel_rfl) (by kernel_rfl) (by kernel_rfl) (by kernel_rfl)) ?_
  intro W base args ds gs before hval0 hW hcnd _
  have hval : ∀ (j : Nat) t v, Try.f7.params[j]? = some t → args[j]? = some v → Value.okWide Try.prog W .any base t v := hval0
  have hW' := hW
  obtain ⟨p, q, hA0, hV, rfl, hfz, hnd⟩ := hW
  have hA : DataW.TrodAll enc Try.prog W 0 (fun _ => true) true Try.f7.params.toList args.toList ds p := hA0
  rw [Try.params7] at hA hval
  obtain ⟨v0, vs0, d0, ds0, p0, q0, hargs, rfl, rfl, h0, r0⟩ := trodAll_cons hA
  obtain ⟨v1, vs1, d1, ds1, p1, q1, rfl, rfl, rfl, h1, r1⟩ := trodAll_cons r0
  obtain ⟨v2, vs2, d2, ds2, p2, q2, rfl, rfl, rfl, h2, r2⟩ := trodAll_cons r1
  obtain ⟨rfl, rfl, rfl⟩ := trodAll_nil r2
  obtain rfl : args = #[v0, v1, v2] := by cases args; simp_all
  obtain ⟨rfl, rfl⟩ := trodVars_none hV
  obtain ⟨a0, n0, c0, rfl⟩ := okWide_slice Try.underlying26 (hval 0 26 v0 rfl rfl)
  have k0 := h0
  have lt0 : ∀ x ∈ p0, x.block < W.heap.size := by obtain ⟨m, hm⟩ := k0; exact DataW.trod_lt m _ _ _ hm
  obtain ⟨a1, n1, c1, rfl⟩ := okWide_slice Try.underlying26 (hval 1 26 v1 rfl rfl)
  have k1 := h1
  have lt1 : ∀ x ∈ p1, x.block < W.heap.size := by obtain ⟨m, hm⟩ := k1; exact DataW.trod_lt m _ _ _ hm
  obtain ⟨a2, n2, c2, rfl⟩ := okWide_slice Try.underlying26 (hval 2 26 v2 rfl rfl)
  have k2 := h2
  have lt2 : ∀ x ∈ p2, x.block < W.heap.size := by obtain ⟨m, hm⟩ := k2; exact DataW.trod_lt m _ _ _ hm
  obtain ⟨l0, el0, R0⟩ : ∃ l : Cf.Cnf, n0 = List.length l ∧ Lists W a0 c0 l := by
    obtain ⟨fuel, hf⟩ := h0
    exact rows_of_trod (fun _ => rfl) (by simpa [Value.cells] using hf)
  subst el0
  obtain ⟨l1, el1, R1⟩ : ∃ l : Cf.Cnf, n1 = List.length l ∧ Lists W a1 c1 l := by
    obtain ⟨fuel, hf⟩ := h1
    exact rows_of_trod (fun _ => rfl) (by simpa [Value.cells] using hf)
  subst el1
  obtain ⟨l2, el2, R2⟩ : ∃ l : Cf.Cnf, n2 = List.length l ∧ Lists W a2 c2 l := by
    obtain ⟨fuel, hf⟩ := h2
    exact rows_of_trod (fun _ => rfl) (by simpa [Value.cells] using hf)
  subst el2
  clear hA0 hval0
  refine (walk a0 c0 l0 a1 c1 l1 a2 c2 l2  W R0 R1 R2).mono fun e W' ⟨he, bel⟩ => ?_
  subst he
  exact ⟨_, rfl, _, _, _, [], _, [], hW', trodAll_mk1 (shut_bool Try.underlying4 _), (trodAll_cons_mk (Below.trod laidOut (by kernel_rfl) (of_decide_eq_true (by kernel_rfl)) k0 bel lt0) (trodAll_cons_mk (Below.trod laidOut (by kernel_rfl) (of_decide_eq_true (by kernel_rfl)) k1 bel lt1) (trodAll_cons_mk (Below.trod laidOut (by kernel_rfl) (of_decide_eq_true (by kernel_rfl)) k2 bel lt2) trodAll_mk0))), rfl, bel.frame _, fun h => by cases h⟩

theorem over : Rows.confSameRow.holds Try.pinned (OpenSpec.ofChange Rows.confSameSpec) :=
  OpenClaim.holds_of_wide 7 Try.f7 rfl rfl rfl rfl rfl rfl rfl ⟨rfl, rfl, rfl, rfl, rfl⟩ rfl rfl rfl rfl rfl (by kernel_rfl) Try.func7 (by kernel_rfl)
    (of_decide_eq_true (by kernel_rfl)) (by unfold Func.isWrapper; first | (rw [if_pos (by decide +kernel)]; kernel_rfl) | (rw [if_neg (by decide +kernel)]; exact ⟨rfl, rfl⟩))
    (fun os started H enc _ => lifted os started H enc)
end Go.Proofs.Ytnmijgnflemhkaa.confSame
namespace Go.Proofs.Ytnmijgnflemhkaa
theorem confSame_holds : Rows.ConfSameSaid := confSame.over
#print axioms confSame_holds
end Go.Proofs.Ytnmijgnflemhkaa
