/- Proved: for all tags, rules and tables the call DigestTells(tag, l, t) returns true and leaves l and t as they were (of more than 60 rules, of more than 20 versions, or of more than 60 rules in one, nothing is asked). -/
import Derived.Test.YtinmhjgnapbkmaaDigAwake
import Derived.Test.YtinmhjgnapbkmaaDigRef
import Derived.Test.YtinmhjgnapbkmaaTabRefs
import Derived.Lib.SmallJoins
namespace Go.Proofs.Ytinmhjgnapbkmaa.digestTells
open Go.ChangeShapes Go.WideShapes Go.ChangeAt Go.RowKit O Dg Pk Tb R
set_option linter.unusedVariables false
set_option linter.unusedSimpArgs false

theorem walk (t : Int) (a1 : Option Addr) (c1 : Nat) (l : List Rl) (a2 : Option Addr) (c2 : Nat) (V : List Vr) (wt : (Lit.int .i64 t).wf = true) (w : World) (R : Rds fR 6 w a1 c1 l) (RV : Vers 0 w a2 c2 V) :
    Calls Try.prog 3 #[.int .i64 t, .slice a1 l.length c1, .slice a2 V.length c2] w fun e w' => e = .returned (.bool true) ∧ Below w.heap.size w w' := by
  have cF := fun w1 (h : Below w.heap.size w w1) => few_any w1 (RV.later h)
  by_cases hV : Fw V
  · rw [decide_eq_true hV] at cF
    by_cases hl : 60 < l.length
    · have hmx := Nat.le_trans R.le R.max
      unfold maxLen at hmx
      clear hV
      go_enter Try.func3, Try.ntmps3
      go_wp2_with fail
      refine (dawake_any _).mono ?_
      rintro e w1 ⟨rfl, hb1⟩
      go_wp2_with fail
      refine (cF w1 hb1).mono ?_
      rintro e w2 ⟨rfl, hb2⟩
      go_wp2_with fail
      go_ret
      exact ⟨rfl, below_step hb1 hb2⟩
    · have hlz : decide ((60 : Int) < (l.length : Int)) = false := decide_eq_false (by omega)
      have hl100 : l.length ≤ 100 := by omega
      have hV1 : V.length ≤ 100 := Nat.le_trans hV.1 (by decide)
      have hV2 : Hid (∀ v ∈ V, v.l.length ≤ 100) := fun v hv => Nat.le_trans (hV.2 v hv) (by decide)
      clear hV
      go_enter Try.func3, Try.ntmps3
      go_wp2_with fail
      refine (dawake_any _).mono ?_
      rintro e w1 ⟨rfl, hb1⟩
      go_wp2_with fail
      refine (cF w1 hb1).mono ?_
      rintro e w2 ⟨rfl, hb2'⟩
      have hb2 := below_step hb1 hb2'
      clear cF hb1 hb2'
      have cA := of_any t w2 (R.later hb2) hl100
      generalize hr : ofN t l = res at cA
      go_wp2_with fail
      refine cA.mono ?_
      clear cA
      rintro e w3 ⟨rfl, hb3'⟩
      have hb3 := below_step hb2 hb3'
      clear hb3' hb2
      have cB := rof_any10 t w3 (R.later hb3) hl100
      rw [hr] at cB
      clear hr
      go_wp2_with fail
      refine cB.mono ?_
      clear cB
      rintro e w4 ⟨rfl, hb4'⟩
      have hb4 := below_step hb3 hb4'
      clear hb4' hb3
      have cC := all_of_any w4 (RV.later hb4) hV1 hV2.out
      generalize hr : allN V = rv at cC
      go_wp2_with fail
      refine cC.mono ?_
      clear cC
      rintro e w5 ⟨rfl, hb5'⟩
      have hb5 := below_step hb4 hb5'
      clear hb5' hb4
      have cD := rall_any10 w5 (RV.later hb5) hV1 hV2.out
      rw [hr] at cD
      clear hr
      go_wp2_with fail
      refine cD.mono ?_
      clear cD
      rintro e w6 ⟨rfl, hb6'⟩
      have hb6 := below_step hb5 hb6'
      go_wp2_with fail
      go_ret
      exact ⟨rfl, hb6⟩
  · rw [decide_eq_false hV] at cF
    clear hV
    go_enter Try.func3, Try.ntmps3
    go_wp2_with fail
    refine (dawake_any _).mono ?_
    rintro e w1 ⟨rfl, hb1⟩
    go_wp2_with fail
    refine (cF w1 hb1).mono ?_
    rintro e w2 ⟨rfl, hb2⟩
    go_wp2_with fail
    go_ret
    exact ⟨rfl, below_step hb1 hb2⟩

theorem own : ownKnob Try.prog.godebug = none := by kernel_rfl
theorem laidOut : laidOutB Try.prog = true := by kernel_rfl
set_option maxRecDepth 100000 in
theorem lifted (os : Os) (started : os.Started) (H : Type) (enc : TypeId × Value → H) :
    ReturnsInHanded {} Try.checked os 3 .any (Rows.digestTellsSpec.pre6 enc Try.prog Try.f3 Rows.digestTellsRow.domain false) (Rows.digestTellsSpec.post enc Try.prog Try.f3 false true false false) := by
  refine returnsInHanded_of_change (C := Try.checked) own started (by kernel_rfl) Try.func3
    (ChangeSpec.witness6 (enc := enc) (C := Try.checked) false ⟨#[], #[.int .i64 0, .slice none 0 0, .slice none 0 0], []⟩ 8 (by kernel_rfl) (by kernel_rfl) (by kernel_rfl) (by kernel_rfl)) ?_
  intro W base args ds gs before hval0 hW hcnd _
  have hval : ∀ (j : Nat) t v, Try.f3.params[j]? = some t → args[j]? = some v → Value.okWide Try.prog W .any base t v := hval0
  have hW' := hW
  obtain ⟨p, q, hA0, hV, rfl, hfz, hnd⟩ := hW
  have hA : DataW.TrodAll enc Try.prog W 0 (fun _ => true) true Try.f3.params.toList args.toList ds p := hA0
  rw [Try.params3] at hA hval
  obtain ⟨v0, vs0, d0, ds0, p0, q0, hargs, rfl, rfl, h0, r0⟩ := trodAll_cons hA
  obtain ⟨v1, vs1, d1, ds1, p1, q1, rfl, rfl, rfl, h1, r1⟩ := trodAll_cons r0
  obtain ⟨v2, vs2, d2, ds2, p2, q2, rfl, rfl, rfl, h2, r2⟩ := trodAll_cons r1
  obtain ⟨rfl, rfl, rfl⟩ := trodAll_nil r2
  obtain rfl : args = #[v0, v1, v2] := by cases args; simp_all
  obtain ⟨rfl, rfl⟩ := trodVars_none hV
  have k0 := h0
  have lt0 : ∀ x ∈ p0, x.block < W.heap.size := by obtain ⟨m, hm⟩ := k0; exact DataW.trod_lt m _ _ _ hm
  obtain ⟨a1, n1, c1, rfl⟩ := okWide_slice Try.underlying22 (hval 1 22 v1 rfl rfl)
  have k1 := h1
  have lt1 : ∀ x ∈ p1, x.block < W.heap.size := by obtain ⟨m, hm⟩ := k1; exact DataW.trod_lt m _ _ _ hm
  obtain ⟨a2, n2, c2, rfl⟩ := okWide_slice Try.underlying23 (hval 2 23 v2 rfl rfl)
  have k2 := h2
  have lt2 : ∀ x ∈ p2, x.block < W.heap.size := by obtain ⟨m, hm⟩ := k2; exact DataW.trod_lt m _ _ _ hm
  obtain ⟨a0, rfl, rfl, hp0, w0⟩ := open_int Try.underlying3 (hval 0 3 v0 rfl rfl) h0
  obtain ⟨l1, el1, R1⟩ : ∃ l : List Pk.Rl, n1 = List.length l ∧ Rds fR 6 W a1 c1 l := by
    obtain ⟨fuel, hf⟩ := h1
    exact rds_of_trod Try.underlying22 (by kernel_rfl) (fun _ => rfl) (by decide) fR_len elemR (by simpa [Value.cells] using hf)
  subst el1
  obtain ⟨l2, el2, R2⟩ : ∃ l : List Tb.Vr, n2 = List.length l ∧ Vers 0 W a2 c2 l := by
    obtain ⟨fuel, hf⟩ := h2
    exact vers_of_trod (fun _ => rfl) (by simpa [Value.cells] using hf)
  subst el2
  clear hA0 hval0
  refine (walk a0 a1 c1 l1 a2 c2 l2 w0 W R1 R2).mono fun e W' ⟨he, bel⟩ => ?_
  subst he
  exact ⟨_, rfl, _, _, _, [], _, [], hW', trodAll_mk1 (shut_bool Try.underlying4 _), (trodAll_cons_mk (Below.trod laidOut (by kernel_rfl) (of_decide_eq_true (by kernel_rfl)) k0 bel lt0) (trodAll_cons_mk (Below.trod laidOut (by kernel_rfl) (of_decide_eq_true (by kernel_rfl)) k1 bel lt1) (trodAll_cons_mk (Below.trod laidOut (by kernel_rfl) (of_decide_eq_true (by kernel_rfl)) k2 bel lt2) trodAll_mk0))), rfl, bel.frame _, fun h => by cases h⟩

theorem over : Rows.digestTellsRow.holds Try.pinned (OpenSpec.ofChange Rows.digestTellsSpec) :=
  OpenClaim.holds_of_wide 3 Try.f3 rfl rfl rfl rfl rfl rfl rfl ⟨rfl, rfl, rfl, rfl, rfl⟩ rfl rfl rfl rfl rfl (by kernel_rfl) Try.func3 (by kernel_rfl)
    (of_decide_eq_true (by kernel_rfl)) (by unfold Func.isWrapper; first | (rw [if_pos (by decide +kernel)]; kernel_rfl) | (rw [if_neg (by decide +kernel)]; exact ⟨rfl, rfl⟩))
    (fun os started H enc _ => lifted os started H enc)
end Go.Proofs.Ytinmhjgnapbkmaa.digestTells
namespace Go.Proofs.Ytinmhjgnapbkmaa
theorem digestTells_holds : Rows.DigestTellsSaid := digestTells.over
#print axioms digestTells_holds
end Go.Proofs.Ytinmhjgnapbkmaa
