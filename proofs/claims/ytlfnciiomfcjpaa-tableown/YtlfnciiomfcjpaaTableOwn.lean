/- Proved: for all tables, tags and rules the call TableOwn(l, tag, r) returns true and leaves l as it was (of more than 20 versions, of more than 60 rules in one, or of none in the first, nothing is asked). -/
import Derived.Test.YtlfnciiomfcjpaaTableOwnOf
import Derived.Test.YtlfnciiomfcjpaaTabCode
import Derived.Lib.SmallJoins
namespace Go.Proofs.Ytlfnciiomfcjpaa.tableOwn
open Go.ChangeShapes Go.WideShapes Go.ChangeAt Go.RowKit Pk Tb R
set_option linter.unusedVariables false

theorem walk (a : Option Addr) (c : Nat) (l : List Vr) (t ra rn ri rp rk rt : Int) (wt2 : (Lit.int .i64 t).wf = true) (wa : (Lit.int .i64 ra).wf = true) (wn : (Lit.int .i64 rn).wf = true) (wi : (Lit.int .i64 ri).wf = true) (wp : (Lit.int .i64 rp).wf = true) (wk : (Lit.int .i64 rk).wf = true) (wt : (Lit.int .i64 rt).wf = true) (w : World) (V : Vers 0 w a c l) :
    Calls Try.prog 7 #[.slice a l.length c, .int .i64 t, .agg #[.int .i64 ra, .int .i64 rn, .int .i64 ri, .int .i64 rp, .int .i64 rk, .int .i64 rt]] w fun e w' => e = .returned (.bool true) ∧ Below w.heap.size w w' := by
  by_cases h : Fw l
  · cases hl : l with
    | nil => rw [← hl]; exact walk_empty code a c l t ra rn ri rp rk rt (wf6 wa wn wi wp wk wt) w V h hl
    | cons z rest =>
      obtain ⟨zt, zl⟩ := z
      cases zl with
      | nil => rw [← hl]; exact walk_hollow code a c l t ra rn ri rp rk rt (wf6 wa wn wi wp wk wt) w V h zt (by rw [hl]; rfl)
      | cons s more =>
        obtain ⟨sa, sn, si, sp, sk, st⟩ := s
        rw [← hl]
        exact walk_main code a c l t ra rn ri rp rk rt (wf6 wa wn wi wp wk wt) w V h ⟨zt, ⟨sa, sn, si, sp, sk, st⟩ :: more⟩ sa sn si sp sk st ⟨by rw [hl]; rfl, rfl⟩
  · exact walk_no code a c l t ra rn ri rp rk rt w V h
theorem own : ownKnob Try.prog.godebug = none := by kernel_rfl
theorem laidOut : laidOutB Try.prog = true := by kernel_rfl
set_option maxRecDepth 100000 in
theorem lifted (os : Os) (started : os.Started) (H : Type) (enc : TypeId × Value → H) :
    ReturnsInHanded {} Try.checked os 7 .any (Rows.tableOwnSpec.pre6 enc Try.prog Try.f7 Rows.tableOwnRow.domain false) (Rows.tableOwnSpec.post enc Try.prog Try.f7 false true false false) := by
  refine returnsInHanded_of_change (C := Try.checked) own started (by kernel_rfl) Try.func7
    (ChangeSpec.witness6 (enc := enc) (C := Try.checked) false ⟨#[], #[.slice none 0 0, .int .i64 0, .agg #[.int .i64 0, .int .i64 0, .int .i64 0, .int .i64 0, .int .i64 0, .int .i64 0]], []⟩ 8 (by kernel_rfl) (by kernel_rfl) (by kernel_rfl) (by kernel_rfl)) ?_
  intro W base args ds gs before hval0 hW hcnd _
  have hval : ∀ (j : Nat) t v, Try.f7.params[j]? = some t → args[j]? = some v → Value.okWide Try.prog W .any base t v := hval0
  have hW' := hW
  obtain ⟨p, q, hA0, hV, rfl, hfz, hnd⟩ := hW
  have hA : DataW.TrodAll enc Try.prog W 0 (fun _ => true) true Try.f7.params.toList args.toList ds p := hA0
  rw [Try.params7] at hA hval
  obtain ⟨v0, vs0, d0, ds0, p0, q0, hargs, rfl, rfl, h0, r0⟩ := trodAll_cons hA
  obtain ⟨v1, vs1, d1, ds1, p1, q1, rfl, rfl, rfl, h1, r1⟩ := trodAll_cons r0
  obtain ⟨v2, vs2, d2, ds2, p2, q2, rfl, rfl, rfl, h2, r2⟩ := trodAll_cons r1
  obtain ⟨rfl, rfl, rfl⟩ := trodAll_nil r2
  obtain rfl : args = #[v0, v1, v2] := by cases args; simp_all
  obtain ⟨rfl, rfl⟩ := trodVars_none hV
  obtain ⟨a0, n0, c0, rfl⟩ := okWide_slice Try.underlying22 (hval 0 22 v0 rfl rfl)
  have k0 := h0
  have lt0 : ∀ x ∈ p0, x.block < W.heap.size := by obtain ⟨m, hm⟩ := k0; exact DataW.trod_lt m _ _ _ hm
  have k1 := h1
  have lt1 : ∀ x ∈ p1, x.block < W.heap.size := by obtain ⟨m, hm⟩ := k1; exact DataW.trod_lt m _ _ _ hm
  have k2 := h2
  have lt2 : ∀ x ∈ p2, x.block < W.heap.size := by obtain ⟨m, hm⟩ := k2; exact DataW.trod_lt m _ _ _ hm
  obtain ⟨l0, el0, R0⟩ : ∃ l : List Tb.Vr, n0 = List.length l ∧ Vers 0 W a0 c0 l := by
    obtain ⟨fuel, hf⟩ := h0
    exact vers_of_trod (fun _ => rfl) (by simpa [Value.cells] using hf)
  subst el0
  obtain ⟨a1, rfl, rfl, hp1, w1⟩ := open_int Try.underlying3 (hval 1 3 v1 rfl rfl) h1
  obtain ⟨a2, b2, c2, d2, e2, f2, rfl, w2a, w2b, w2c, w2d, w2e, w2f⟩ := open_rule (hval 2 28 v2 rfl rfl) h2
  clear hA0 hval0
  refine (walk a0 c0 l0 a1 a2 b2 c2 d2 e2 f2 w1 w2a w2b w2c w2d w2e w2f W R0).mono fun e W' ⟨he, bel⟩ => ?_
  subst he
  exact ⟨_, rfl, _, _, _, [], _, [], hW', trodAll_mk1 (shut_bool Try.underlying4 _), (trodAll_cons_mk (Below.trod laidOut (by kernel_rfl) (of_decide_eq_true (by kernel_rfl)) k0 bel lt0) (trodAll_cons_mk (Below.trod laidOut (by kernel_rfl) (of_decide_eq_true (by kernel_rfl)) k1 bel lt1) (trodAll_cons_mk (Below.trod laidOut (by kernel_rfl) (of_decide_eq_true (by kernel_rfl)) k2 bel lt2) trodAll_mk0))), rfl, bel.frame _, fun h => by cases h⟩

theorem over : Rows.tableOwnRow.holds Try.pinned (OpenSpec.ofChange Rows.tableOwnSpec) :=
  OpenClaim.holds_of_wide 7 Try.f7 rfl rfl rfl rfl rfl rfl rfl ⟨rfl, rfl, rfl, rfl, rfl⟩ rfl rfl rfl rfl rfl (by kernel_rfl) Try.func7 (by kernel_rfl)
    (of_decide_eq_true (by kernel_rfl)) (by unfold Func.isWrapper; first | (rw [if_pos (by decide +kernel)]; kernel_rfl) | (rw [if_neg (by decide +kernel)]; exact ⟨rfl, rfl⟩))
    (fun os started H enc _ => lifted os started H enc)
end Go.Proofs.Ytlfnciiomfcjpaa.tableOwn
namespace Go.Proofs.Ytlfnciiomfcjpaa
theorem tableOwn_holds : Rows.TableOwnSaid := tableOwn.over
#print axioms tableOwn_holds
end Go.Proofs.Ytlfnciiomfcjpaa
