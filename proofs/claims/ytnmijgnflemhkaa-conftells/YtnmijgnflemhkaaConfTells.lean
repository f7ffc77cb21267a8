/- Proved: for every topology of at most 60 links, all configurations of at most 10 lists of at most 60 rules and every number sw the call ConfTells(t, a, b, sw) returns true (else nothing is asked). -/
import Derived.Test.YtnmijgnflemhkaaConfCode
import Derived.Test.YtnmijgnflemhkaaTopOpen
import Derived.Test.YtnmijgnflemhkaaConfTellsOf
import Derived.Lib.SmallJoins
namespace Go.Proofs.Ytnmijgnflemhkaa.confTells
open Go.ChangeShapes Go.WideShapes Go.ChangeAt Go.RowKit Go.Maps Pk Cf
set_option linter.unusedVariables false
set_option linter.unusedSimpArgs false

theorem walk (s n : Int) (x : Option Addr) (c : Nat) (lk : List Tp.Lk) (a1 : Option Addr) (c1 : Nat) (A1 : Cnf) (a2 : Option Addr) (c2 : Nat) (A2 : Cnf) (sw : Int) (w0a : (Lit.int .i64 s).wf = true) (w0b : (Lit.int .i64 n).wf = true) (w3 : (Lit.int .i64 sw).wf = true) (w : World) (RT : Rds Tp.fK 4 w x c lk) (V1 : Lists w a1 c1 A1) (V2 : Lists w a2 c2 A2) :
    Calls Try.prog 3 #[.agg #[.int .i64 s, .int .i64 n, .slice x lk.length c], .slice a1 A1.length c1, .slice a2 A2.length c2, .int .i64 sw] w fun e w' => e = .returned (.bool true) ∧ Below w.heap.size w w' := confTells_of code s n x c lk a1 c1 A1 a2 c2 A2 sw w RT V1 V2
theorem own : ownKnob Try.prog.godebug = none := by kernel_rfl
theorem laidOut : laidOutB Try.prog = true := by kernel_rfl
set_option maxRecDepth 100000 in
theorem lifted (os : Os) (started : os.Started) (H : Type) (enc : TypeId × Value → H) :
    ReturnsInHanded {} Try.checked os 3 .any (Rows.confTellsSpec.pre6 enc Try.prog Try.f3 Rows.confTellsRow.domain false) (Rows.confTellsSpec.post enc Try.prog Try.f3 false true false false) := by
  refine returnsInHanded_of_change (C := Try.checked) own started (by kernel_rfl) Try.func3
    (ChangeSpec.witness6 (enc := enc) (C := Try.checked) false ⟨#[], #[.agg #[.int .i64 0, .int .i64 0, .slice none 0 0], .slice none 0 0, .slice none 0 0, .int .i64 0], []⟩ 8 (by kernel_rfl) (by kernel_rfl) (by kernel_rfl) (by kernel_rfl)) ?_
  intro W base args ds gs before hval0 hW hcnd _
  have hval : ∀ (j : Nat) t v, Try.f3.params[j]? = some t → args[j]? = some v → Value.okWide Try.prog W .any base t v := hval0
  have hW' := hW
  obtain ⟨p, q, hA0, hV, rfl, hfz, hnd⟩ := hW
  have hA : DataW.TrodAll enc Try.prog W 0 (fun _ => true) true Try.f3.params.toList args.toList ds p := hA0
  rw [Try.params3] at hA hval
  obtain ⟨v0, vs0, d0, ds0, p0, q0, hargs, rfl, rfl, h0, r0⟩ := trodAll_cons hA
  obtain ⟨v1, vs1, d1, ds1, p1, q1, rfl, rfl, rfl, h1, r1⟩ := trodAll_cons r0
  obtain ⟨v2, vs2, d2, ds2, p2, q2, rfl, rfl, rfl, h2, r2⟩ := trodAll_cons r1
  obtain ⟨v3, vs3, d3, ds3, p3, q3, rfl, rfl, rfl, h3, r3⟩ := trodAll_cons r2
  obtain ⟨rfl, rfl, rfl⟩ := trodAll_nil r3
  obtain rfl : args = #[v0, v1, v2, v3] := by cases args; simp_all
  obtain ⟨rfl, rfl⟩ := trodVars_none hV
  have k0 := h0
  have lt0 : ∀ x ∈ p0, x.block < W.heap.size := by obtain ⟨m, hm⟩ := k0; exact DataW.trod_lt m _ _ _ hm
  obtain ⟨a1, n1, c1, rfl⟩ := okWide_slice Try.underlying26 (hval 1 26 v1 rfl rfl)
  have k1 := h1
  have lt1 : ∀ x ∈ p1, x.block < W.heap.size := by obtain ⟨m, hm⟩ := k1; exact DataW.trod_lt m _ _ _ hm
  obtain ⟨a2, n2, c2, rfl⟩ := okWide_slice Try.underlying26 (hval 2 26 v2 rfl rfl)
  have k2 := h2
  have lt2 : ∀ x ∈ p2, x.block < W.heap.size := by obtain ⟨m, hm⟩ := k2; exact DataW.trod_lt m _ _ _ hm
  have k3 := h3
  have lt3 : ∀ x ∈ p3, x.block < W.heap.size := by obtain ⟨m, hm⟩ := k3; exact DataW.trod_lt m _ _ _ hm
  obtain ⟨a0, b0, x0, c0, l0, rfl, w0a, w0b, R0⟩ := open_topo (fun _ => rfl) (hval 0 24 v0 rfl rfl) h0
  obtain ⟨l1, el1, R1⟩ : ∃ l : Cf.Cnf, n1 = List.length l ∧ Lists W a1 c1 l := by
    obtain ⟨fuel, hf⟩ := h1
    exact rows_of_trod (fun _ => rfl) (by simpa [Value.cells] using hf)
  subst el1
  obtain ⟨l2, el2, R2⟩ : ∃ l : Cf.Cnf, n2 = List.length l ∧ Lists W a2 c2 l := by
    obtain ⟨fuel, hf⟩ := h2
    exact rows_of_trod (fun _ => rfl) (by simpa [Value.cells] using hf)
  subst el2
  obtain ⟨a3, rfl, rfl, hp3, w3⟩ := open_int Try.underlying3 (hval 3 3 v3 rfl rfl) h3
  clear hA0 hval0
  refine (walk a0 b0 x0 c0 l0 a1 c1 l1 a2 c2 l2 a3 w0a w0b w3 W R0 R1 R2).mono fun e W' ⟨he, bel⟩ => ?_
  subst he
  exact ⟨_, rfl, _, _, _, [], _, [], hW', trodAll_mk1 (shut_bool Try.underlying4 _), (trodAll_cons_mk (Below.trod laidOut (by kernel_rfl) (of_decide_eq_true (by kernel_rfl)) k0 bel lt0) (trodAll_cons_mk (Below.trod laidOut (by kernel_rfl) (of_decide_eq_true (by kernel_rfl)) k1 bel lt1) (trodAll_cons_mk (Below.trod laidOut (by kernel_rfl) (of_decide_eq_true (by kernel_rfl)) k2 bel lt2) (trodAll_cons_mk (Below.trod laidOut (by kernel_rfl) (of_decide_eq_true (by kernel_rfl)) k3 bel lt3) trodAll_mk0)))), rfl, bel.frame _, fun h => by cases h⟩

theorem over : Rows.confTellsRow.holds Try.pinned (OpenSpec.ofChange Rows.confTellsSpec) :=
  OpenClaim.holds_of_wide 3 Try.f3 rfl rfl rfl rfl rfl rfl rfl ⟨rfl, rfl, rfl, rfl, rfl⟩ rfl rfl rfl rfl rfl (by kernel_rfl) Try.func3 (by kernel_rfl)
    (of_decide_eq_true (by kernel_rfl)) (by unfold Func.isWrapper; first | (rw [if_pos (by decide +kernel)]; kernel_rfl) | (rw [if_neg (by decide +kernel)]; exact ⟨rfl, rfl⟩))
    (fun os started H enc _ => lifted os started H enc)
end Go.Proofs.Ytnmijgnflemhkaa.confTells
namespace Go.Proofs.Ytnmijgnflemhkaa
theorem confTells_holds : Rows.ConfTellsSaid := confTells.over
#print axioms confTells_holds
end Go.Proofs.Ytnmijgnflemhkaa
