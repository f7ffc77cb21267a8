/- Proved: for all wires l, at most 100 of at most 300 bytes each, and every wire w of one byte or more, and at most 300, the call WiresOwn(l, w) returns true (else nothing is asked). -/
import Derived.Test.YtoedgnkoahcblaaWireCode
import Derived.Test.YtoedgnkoahcblaaWiresOwnOf
import Derived.Lib.SmallJoins
namespace Go.Proofs.Ytoedgnkoahcblaa.wiresOwn
open Go.ChangeShapes Go.WideShapes Go.ChangeAt Go.RowKit Go.Maps O Wi
set_option linter.unusedVariables false
set_option linter.unusedSimpArgs false

theorem walk (a : Option Addr) (c : Nat) (L : List Wr) (ps : Int) (pu : Bool) (px : Option Addr) (pc : Nat) (pb : List Int) (hps : (Lit.int .i64 ps).wf = true) (w : World) (V : Wires none w a c L) (RP : Reads .u8 w px pc pb) :
    Calls Try.prog 5 #[.slice a L.length c, .agg #[.int .i64 ps, .bool pu, .slice px pb.length pc]] w fun e w' => e = .returned (.bool true) ∧ Below w.heap.size w w' := wiresOwn_of wcode a c L ps pu px pc pb w V hps RP
theorem own : ownKnob Try.prog.godebug = none := by kernel_rfl
theorem laidOut : laidOutB Try.prog = true := by kernel_rfl
set_option maxRecDepth 100000 in
theorem lifted (os : Os) (started : os.Started) (H : Type) (enc : TypeId × Value → H) :
    ReturnsInHanded {} Try.checked os 5 .any (Rows.wiresOwnSpec.pre6 enc Try.prog Try.f5 Rows.wiresOwnRow.domain false) (Rows.wiresOwnSpec.post enc Try.prog Try.f5 false true false false) := by
  refine returnsInHanded_of_change (C := Try.checked) own started (by kernel_rfl) Try.func5
    (ChangeSpec.witness6 (enc := enc) (C := Try.checked) false ⟨#[], #[.slice none 0 0, .agg #[.int .i64 0, .bool false, .slice none 0 0]], []⟩ 8 (by kernel_rfl) (by kernel_rfl) (by kernel_rfl) (by kernel_rfl)) ?_
  intro W base args ds gs before hval0 hW hcnd _
  have hval : ∀ (j : Nat) t v, Try.f5.params[j]? = some t → args[j]? = some v → Value.okWide Try.prog W .any base t v := hval0
  have hW' := hW
  obtain ⟨p, q, hA0, hV, rfl, hfz, hnd⟩ := hW
  have hA : DataW.TrodAll enc Try.prog W 0 (fun _ => true) true Try.f5.params.toList args.toList ds p := hA0
  rw [Try.params5] at hA hval
  obtain ⟨v0, vs0, d0, ds0, p0, q0, hargs, rfl, rfl, h0, r0⟩ := trodAll_cons hA
  obtain ⟨v1, vs1, d1, ds1, p1, q1, rfl, rfl, rfl, h1, r1⟩ := trodAll_cons r0
  obtain ⟨rfl, rfl, rfl⟩ := trodAll_nil r1
  obtain rfl : args = #[v0, v1] := by cases args; simp_all
  obtain ⟨rfl, rfl⟩ := trodVars_none hV
  obtain ⟨a0, n0, c0, rfl⟩ := okWide_slice Try.underlying22 (hval 0 22 v0 rfl rfl)
  have k0 := h0
  have lt0 : ∀ x ∈ p0, x.block < W.heap.size := by obtain ⟨m, hm⟩ := k0; exact DataW.trod_lt m _ _ _ hm
  have k1 := h1
  have lt1 : ∀ x ∈ p1, x.block < W.heap.size := by obtain ⟨m, hm⟩ := k1; exact DataW.trod_lt m _ _ _ hm
  obtain ⟨l0, el0, R0⟩ : ∃ l : List Wi.Wr, n0 = List.length l ∧ Wires none W a0 c0 l := by
    obtain ⟨fuel, hf⟩ := h0
    exact wires_of_trod (fun _ => rfl) (by simpa [Value.cells] using hf)
  subst el0
  obtain ⟨a1, b1, x1, c1, l1, rfl, w1, R1⟩ := open_wire (fun _ => rfl) (hval 1 25 v1 rfl rfl) h1
  clear hA0 hval0
  refine (walk a0 c0 l0 a1 b1 x1 c1 l1 w1 W R0 R1).mono fun e W' ⟨he, bel⟩ => ?_
  subst he
  exact ⟨_, rfl, _, _, _, [], _, [], hW', trodAll_mk1 (shut_bool Try.underlying4 _), (trodAll_cons_mk (Below.trod laidOut (by kernel_rfl) (of_decide_eq_true (by kernel_rfl)) k0 bel lt0) (trodAll_cons_mk (Below.trod laidOut (by kernel_rfl) (of_decide_eq_true (by kernel_rfl)) k1 bel lt1) trodAll_mk0)), rfl, bel.frame _, fun h => by cases h⟩

theorem over : Rows.wiresOwnRow.holds Try.pinned (OpenSpec.ofChange Rows.wiresOwnSpec) :=
  OpenClaim.holds_of_wide 5 Try.f5 rfl rfl rfl rfl rfl rfl rfl ⟨rfl, rfl, rfl, rfl, rfl⟩ rfl rfl rfl rfl rfl (by kernel_rfl) Try.func5 (by kernel_rfl)
    (of_decide_eq_true (by kernel_rfl)) (by unfold Func.isWrapper; first | (rw [if_pos (by decide +kernel)]; kernel_rfl) | (rw [if_neg (by decide +kernel)]; exact ⟨rfl, rfl⟩))
    (fun os started H enc _ => lifted os started H enc)
end Go.Proofs.Ytoedgnkoahcblaa.wiresOwn
namespace Go.Proofs.Ytoedgnkoahcblaa
theorem wiresOwn_holds : Rows.WiresOwnSaid := wiresOwn.over
#print axioms wiresOwn_holds
end Go.Proofs.Ytoedgnkoahcblaa
