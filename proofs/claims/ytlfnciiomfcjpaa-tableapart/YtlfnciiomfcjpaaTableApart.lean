/- Proved: for all tables, tags, rules, other tags, ports and destinations the call TableApart(l, tag, r, other, in, dst) returns true and leaves l as it was (of more than 20 versions, or of more than 60 rules in one, nothing is asked). -/
import Derived.Test.YtlfnciiomfcjpaaTableApartOf
import Derived.Test.YtlfnciiomfcjpaaTabCode
import Derived.Lib.SmallJoins
namespace Go.Proofs.Ytlfnciiomfcjpaa.tableApart
open Go.ChangeShapes Go.WideShapes Go.ChangeAt Go.RowKit Pk Tb R
set_option linter.unusedVariables false

theorem walk (a : Option Addr) (c : Nat) (l : List Vr) (t ra rn ri rp rk rt o x d : Int) (wt2 : (Lit.int .i64 t).wf = true) (wa : (Lit.int .i64 ra).wf = true) (wn : (Lit.int .i64 rn).wf = true) (wi : (Lit.int .i64 ri).wf = true) (wp : (Lit.int .i64 rp).wf = true) (wk : (Lit.int .i64 rk).wf = true) (wt : (Lit.int .i64 rt).wf = true) (wo : (Lit.int .i64 o).wf = true) (wx : (Lit.int .i64 x).wf = true) (wd : (Lit.int .i64 d).wf = true) (w : World) (V : Vers 0 w a c l) :
    Calls Try.prog 5 #[.slice a l.length c, .int .i64 t, .agg #[.int .i64 ra, .int .i64 rn, .int .i64 ri, .int .i64 rp, .int .i64 rk, .int .i64 rt], .int .i64 o, .int .i64 x, .int .i64 d] w fun e w' => e = .returned (.bool true) ∧ Below w.heap.size w w' := by
  by_cases h : Fw l
  · by_cases ho : o = t
    · exact walk_same code a c l t ra rn ri rp rk rt o x d (wf6 wa wn wi wp wk wt) w V h ho
    · exact walk_yes code a c l t ra rn ri rp rk rt o x d (wf6 wa wn wi wp wk wt) w V h ho
  · exact walk_no code a c l t ra rn ri rp rk rt o x d w V h
theorem own : ownKnob Try.prog.godebug = none := by kernel_rfl
theorem laidOut : laidOutB Try.prog = true := by kernel_rfl
set_option maxRecDepth 100000 in
theorem lifted (os : Os) (started : os.Started) (H : Type) (enc : TypeId × Value → H) :
    ReturnsInHanded {} Try.checked os 5 .any (Rows.tableApartSpec.pre6 enc Try.prog Try.f5 Rows.tableApartRow.domain false) (Rows.tableApartSpec.post enc Try.prog Try.f5 false true false false) := by
  refine returnsInHanded_of_change (C := Try.checked) own started (by kernel_rfl) Try.func5
    (ChangeSpec.witness6 (enc := enc) (C := Try.checked) false ⟨#[], #[.slice none 0 0, .int .i64 0, .agg #[.int .i64 0, .int .i64 0, .int .i64 0, .int .i64 0, .int .i64 0, .int .i64 0], .int .i64 0, .int .i64 0, .int .i64 0], []⟩ 8 (by kernel_rfl) (by kernel_rfl) (by kernel_rfl) (by kernel_rfl)) ?_
  intro W base args ds gs before hval0 hW hcnd _
  have hval : ∀ (j : Nat) t v, Try.f5.params[j]? = some t → args[j]? = some v → Value.okWide Try.prog W .any base t v := hval0
  have hW' := hW
  obtain ⟨p, q, hA0, hV, rfl, hfz, hnd⟩ := hW
  have hA : DataW.TrodAll enc Try.prog W 0 (fun _ => true) true Try.f5.params.toList args.toList ds p := hA0
  rw [Try.params5] at hA hval
  obtain ⟨v0, vs0, d0, ds0, p0, q0, hargs, rfl, rfl, h0, r0⟩ := trodAll_cons hA
  obtain ⟨v1, vs1, d1, ds1, p1, q1, rfl, rfl, rfl, h1, r1⟩ := trodAll_cons r0
  obtain ⟨v2, vs2, d2, ds2, p2, q2, rfl, rfl, rfl, h2, r2⟩ := trodAll_cons r1
  obtain ⟨v3, vs3, d3, ds3, p3, q3, rfl, rfl, rfl, h3, r3⟩ := trodAll_cons r2
  obtain ⟨v4, vs4, d4, ds4, p4, q4, rfl, rfl, rfl, h4, r4⟩ := trodAll_cons r3
  obtain ⟨v5, vs5, d5, ds5, p5, q5, rfl, rfl, rfl, h5, r5⟩ := trodAll_cons r4
  obtain ⟨rfl, rfl, rfl⟩ := trodAll_nil r5
  obtain rfl : args = #[v0, v1, v2, v3, v4, v5] := by cases args; simp_all
  obtain ⟨rfl, rfl⟩ := trodVars_none hV
  obtain ⟨a0, n0, c0, rfl⟩ := okWide_slice Try.underlying22 (hval 0 22 v0 rfl rfl)
  have k0 := h0
  have lt0 : ∀ x ∈ p0, x.block < W.heap.size := by obtain ⟨m, hm⟩ := k0; exact DataW.trod_lt m _ _ _ hm
  have k1 := h1
  have lt1 : ∀ x ∈ p1, x.block < W.heap.size := by obtain ⟨m, hm⟩ := k1; exact DataW.trod_lt m _ _ _ hm
  have k2 := h2
  have lt2 : ∀ x ∈ p2, x.block < W.heap.size := by obtain ⟨m, hm⟩ := k2; exact DataW.trod_lt m _ _ _ hm
  have k3 := h3
  have lt3 : ∀ x ∈ p3, x.block < W.heap.size := by obtain ⟨m, hm⟩ := k3; exact DataW.trod_lt m _ _ _ hm
  have k4 := h4
  have lt4 : ∀ x ∈ p4, x.block < W.heap.size := by obtain ⟨m, hm⟩ := k4; exact DataW.trod_lt m _ _ _ hm
  have k5 := h5
  have lt5 : ∀ x ∈ p5, x.block < W.heap.size := by obtain ⟨m, hm⟩ := k5; exact DataW.trod_lt m _ _ _ hm
  obtain ⟨l0, el0, R0⟩ : ∃ l : List Tb.Vr, n0 = List.length l ∧ Vers 0 W a0 c0 l := by
    obtain ⟨fuel, hf⟩ := h0
    exact vers_of_trod (fun _ => rfl) (by simpa [Value.cells] using hf)
  subst el0
  obtain ⟨a1, rfl, rfl, hp1, w1⟩ := open_int Try.underlying3 (hval 1 3 v1 rfl rfl) h1
  obtain ⟨a2, b2, c2, d2, e2, f2, rfl, w2a, w2b, w2c, w2d, w2e, w2f⟩ := open_rule (hval 2 28 v2 rfl rfl) h2
  obtain ⟨a3, rfl, rfl, hp3, w3⟩ := open_int Try.underlying3 (hval 3 3 v3 rfl rfl) h3
  obtain ⟨a4, rfl, rfl, hp4, w4⟩ := open_int Try.underlying3 (hval 4 3 v4 rfl rfl) h4
  obtain ⟨a5, rfl, rfl, hp5, w5⟩ := open_int Try.underlying3 (hval 5 3 v5 rfl rfl) h5
  clear hA0 hval0
  refine (walk a0 c0 l0 a1 a2 b2 c2 d2 e2 f2 a3 a4 a5 w1 w2a w2b w2c w2d w2e w2f w3 w4 w5 W R0).mono fun e W' ⟨he, bel⟩ => ?_
  subst he
  exact ⟨_, rfl, _, _, _, [], _, [], hW', trodAll_mk1 (shut_bool Try.underlying4 _), (trodAll_cons_mk (Below.trod laidOut (by kernel_rfl) (of_decide_eq_true (by kernel_rfl)) k0 bel lt0) (trodAll_cons_mk (Below.trod laidOut (by kernel_rfl) (of_decide_eq_true (by kernel_rfl)) k1 bel lt1) (trodAll_cons_mk (Below.trod laidOut (by kernel_rfl) (of_decide_eq_true (by kernel_rfl)) k2 bel lt2) (trodAll_cons_mk (Below.trod laidOut (by kernel_rfl) (of_decide_eq_true (by kernel_rfl)) k3 bel lt3) (trodAll_cons_mk (Below.trod laidOut (by kernel_rfl) (of_decide_eq_true (by kernel_rfl)) k4 bel lt4) (trodAll_cons_mk (Below.trod laidOut (by kernel_rfl) (of_decide_eq_true (by kernel_rfl)) k5 bel lt5) trodAll_mk0)))))), rfl, bel.frame _, fun h => by cases h⟩

theorem over : Rows.tableApartRow.holds Try.pinned (OpenSpec.ofChange Rows.tableApartSpec) :=
  OpenClaim.holds_of_wide 5 Try.f5 rfl rfl rfl rfl rfl rfl rfl ⟨rfl, rfl, rfl, rfl, rfl⟩ rfl rfl rfl rfl rfl (by kernel_rfl) Try.func5 (by kernel_rfl)
    (of_decide_eq_true (by kernel_rfl)) (by unfold Func.isWrapper; first | (rw [if_pos (by decide +kernel)]; kernel_rfl) | (rw [if_neg (by decide +kernel)]; exact ⟨rfl, rfl⟩))
    (fun os started H enc _ => lifted os started H enc)
end Go.Proofs.Ytlfnciiomfcjpaa.tableApart
namespace Go.Proofs.Ytlfnciiomfcjpaa
theorem tableApart_holds : Rows.TableApartSaid := tableApart.over
#print axioms tableApart_holds
end Go.Proofs.Ytlfnciiomfcjpaa
