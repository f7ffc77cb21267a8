/- Proved: for every topology and every configuration the call ConfPorts(t, c) returns true (where the configuration may not be, nothing is asked). -/
import Derived.Test.YtnmijgnflemhkaaConfCode
import Derived.Test.YtnmijgnflemhkaaTopOpen
import Derived.Test.YtnmijgnflemhkaaConfPortsOf
import Derived.Lib.SmallJoins
namespace Go.Proofs.Ytnmijgnflemhkaa.confPorts
open Go.ChangeShapes Go.WideShapes Go.ChangeAt Go.RowKit Go.Maps Pk Cf
set_option linter.unusedVariables false
set_option linter.unusedSimpArgs false

theorem walk (s n : Int) (x : Option Addr) (c : Nat) (lk : List Tp.Lk) (a1 : Option Addr) (c1 : Nat) (A1 : Cnf) (w0a : (Lit.int .i64 s).wf = true) (w0b : (Lit.int .i64 n).wf = true) (w : World) (RT : Rds Tp.fK 4 w x c lk) (V1 : Lists w a1 c1 A1) :
    Calls Try.prog 8 #[.agg #[.int .i64 s, .int .i64 n, .slice x lk.length c], .slice a1 A1.length c1] w fun e w' => e = .returned (.bool true) ∧ Below w.heap.size w w' := confPorts_of code s n x c lk a1 c1 A1 w RT V1
theorem own : ownKnob Try.prog.godebug = none := by kernel_rfl
theorem laidOut : laidOutB Try.prog = true := by kernel_rfl
set_option maxRecDepth 100000 in
theorem lifted (os : Os) (started : os.Started) (H : Type) (enc : TypeId × Value → H) :
    ReturnsInHanded {} Try.checked os 8 .any (Rows.confPortsSpec.pre6 enc Try.prog Try.f8 Rows.confPortsRow.domain false) (Rows.confPortsSpec.post enc Try.prog Try.f8 false true false false) := by
  refine returnsInHanded_of_change (C := Try.checked) own started (by kernel_rfl) Try.func8
    (ChangeSpec.witness6 (enc := enc) (C := Try.checked) false ⟨#[], #[.agg #[.int .i64 0, .int .i64 0, .slice none 0 0], .slice none 0 0], []⟩ 8 (by kernel_rfl) (by kernel_rfl) (by kernel_rfl) (by kernel_rfl)) ?_
  intro W base args ds gs before hval0 hW hcnd _
  have hval : ∀ (j : Nat) t v, Try.f8.params[j]? = some t → args[j]? = some v → Value.okWide Try.prog W .any base t v := hval0
  have hW' := hW
  obtain ⟨p, q, hA0, hV, rfl, hfz, hnd⟩ := hW
  have hA : DataW.TrodAll enc Try.prog W 0 (fun _ => true) true Try.f8.params.toList args.toList ds p := hA0
  rw [Try.params8] at hA hval
  obtain ⟨v0, vs0, d0, ds0, p0, q0, hargs, rfl, rfl, h0, r0⟩ := trodAll_cons hA
  obtain ⟨v1, vs1, d1, ds1, p1, q1, rfl, rfl, rfl, h1, r1⟩ := trodAll_cons r0
  obtain ⟨rfl, rfl, rfl⟩ := trodAll_nil r1
  obtain rfl : args = #[v0, v1] := by cases args; simp_all
  obtain ⟨rfl, rfl⟩ := trodVars_none hV
  have k0 := h0
  have lt0 : ∀ x ∈ p0, x.block < W.heap.size := by obtain ⟨m, hm⟩ := k0; exact DataW.trod_lt m _ _ _ hm
  obtain ⟨a1, n1, c1, rfl⟩ := okWide_slice Try.underlying26 (hval 1 26 v1 rfl rfl)
  have k1 := h1
  have lt1 : ∀ x ∈ p1, x.block < W.heap.size := by obtain ⟨m, hm⟩ := k1; exact DataW.trod_lt m _ _ _ hm
  obtain ⟨a0, b0, x0, c0, l0, rfl, w0a, w0b, R0⟩ := open_topo (fun _ => rfl) (hval 0 24 v0 rfl rfl) h0
  obtain ⟨l1, el1, R1⟩ : ∃ l : Cf.Cnf, n1 = List.length l ∧ Lists W a1 c1 l := by
    obtain ⟨fuel, hf⟩ := h1
    exact rows_of_trod (fun _ => rfl) (by simpa [Value.cells] using hf)
  subst el1
  clear hA0 hval0
  refine (walk a0 b0 x0 c0 l0 a1 c1 l1 w0a w0b W R0 R1).mono fun e W' ⟨he, bel⟩ => ?_
  subst he
  exact ⟨_, rfl, _, _, _, [], _, [], hW', trodAll_mk1 (shut_bool Try.underlying4 _), (trodAll_cons_mk (Below.trod laidOut (by kernel_rfl) (of_decide_eq_true (by kernel_rfl)) k0 bel lt0) (trodAll_cons_mk (Below.trod laidOut (by kernel_rfl) (of_decide_eq_true (by kernel_rfl)) k1 bel lt1) trodAll_mk0)), rfl, bel.frame _, fun h => by cases h⟩

theorem over : Rows.confPortsRow.holds Try.pinned (OpenSpec.ofChange Rows.confPortsSpec) :=
  OpenClaim.holds_of_wide 8 Try.f8 rfl rfl rfl rfl rfl rfl rfl ⟨rfl, rfl, rfl, rfl, rfl⟩ rfl rfl rfl rfl rfl (by kernel_rfl) Try.func8 (by kernel_rfl)
    (of_decide_eq_true (by kernel_rfl)) (by unfold Func.isWrapper; first | (rw [if_pos (by decide +kernel)]; kernel_rfl) | (rw [if_neg (by decide +kernel)]; exact ⟨rfl, rfl⟩))
    (fun os started H enc _ => lifted os started H enc)
end Go.Proofs.Ytnmijgnflemhkaa.confPorts
namespace Go.Proofs.Ytnmijgnflemhkaa
theorem confPorts_holds : Rows.ConfPortsSaid := confPorts.over
#print axioms confPorts_holds
end Go.Proofs.Ytnmijgnflemhkaa
