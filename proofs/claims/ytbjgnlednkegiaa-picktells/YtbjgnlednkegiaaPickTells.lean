/- Proved: for all rules l, ports and destinations the call PickTells(l, in, dst) returns true and leaves l as it was (of more than 100 nothing is asked). -/
import Derived.Test.YtbjgnlednkegiaaPickOpen
import Derived.Test.YtbjgnlednkegiaaPickAll
import Derived.Test.YtbjgnlednkegiaaPickRefOrd
import Derived.Lib.SmallJoins
namespace Go.Proofs.Ytbjgnlednkegiaa.pickTells
open Go.ChangeShapes Go.WideShapes Go.ChangeAt Go.RowKit Pk R
set_option linter.unusedVariables false


set_option maxRecDepth 100000 in
theorem walk_long (a : Option Addr) (c : Nat) (l : List Rl) (x d : Int) (w : World) (R : Rds fR 6 w a c l) (hl : 100 < l.length) :
    Calls Try.prog 3 #[.slice a l.length c, .int .i64 x, .int .i64 d] w fun e w' => e = .returned (.bool true) ∧ Below w.heap.size w w' := by
  have hmx := Nat.le_trans R.le R.max
  unfold maxLen at hmx
  go_enter Try.func3, Try.ntmps3
  go_wp2_with fail
  refine (awake_any _).mono ?_
  rintro e w1 ⟨rfl, hb1⟩
  go_wp2_with fail
  go_ret
  exact ⟨rfl, hb1⟩
set_option maxRecDepth 100000 in
set_option maxHeartbeats 4000000 in
theorem walk_short (a : Option Addr) (c : Nat) (l : List Rl) (x d : Int) (w : World) (R : Rds fR 6 w a c l) (hl : l.length ≤ 100) :
    Calls Try.prog 3 #[.slice a l.length c, .int .i64 x, .int .i64 d] w fun e w' => e = .returned (.bool true) ∧ Below w.heap.size w w' := by
  have hmx := Nat.le_trans R.le R.max
  unfold maxLen at hmx
  have hlz : decide ((100 : Int) < (l.length : Int)) = false := decide_eq_false (by omega)
  have HL : Hid (l.length ≤ 100) := hl
  clear hl
  go_enter Try.func3, Try.ntmps3
  go_wp2_with fail
  refine (awake_any _).mono ?_
  rintro e w1 ⟨rfl, hb1⟩
  have R1 := R.later hb1
  have c1 := order_any sortsTo_100 (by omega) w1 R1 HL.out
  go_wp2_with fail
  refine c1.mono ?_
  clear c1
  rintro e w2 ⟨x2, k2, rfl, ⟨Ro, -⟩, hb2⟩
  have R2 := R1.later hb2
  have c2 := rorder8_any w2 R2 HL.out
  go_wp2_with fail
  refine c2.mono ?_
  clear c2
  rintro e w3 ⟨x3, k3, rfl, ⟨Ro3, -⟩, hb3⟩
  have c3 := rsame8_any w3 (Ro.later hb3) Ro3
  rw [decide_eq_true (rfl : sortL l = sortL l)] at c3
  go_wp2_with fail
  refine c3.mono ?_
  clear c3
  rintro e w4 ⟨rfl, hb4⟩
  have hb5 := below_step (below_step hb1 hb2) (below_step hb3 hb4)
  have R5 := R2.later (below_step hb3 hb4)
  clear R1 R2 hb1 hb2 hb3 hb4 Ro Ro3
  have cA := first_any w4 R5 x d
  generalize hn : firstL x d l = n at cA
  go_wp2_with fail
  refine cA.mono ?_
  clear cA
  rintro e w6 ⟨rfl, hb6⟩
  have cB := rfirst8_any w6 (R5.later hb6) x d
  rw [hn] at cB
  clear hn
  go_wp2_with fail
  refine cB.mono ?_
  clear cB
  rintro e w7 ⟨rfl, hb7⟩
  replace hb6 := below_step (below_step hb5 hb6) hb7
  go_wp2_with fail
  go_ret
  exact ⟨rfl, hb6⟩
theorem walk (a : Option Addr) (c : Nat) (l : List Rl) (x d : Int) (wx : (Lit.int .i64 x).wf = true) (wd : (Lit.int .i64 d).wf = true) (w : World) (R : Rds fR 6 w a c l) :
    Calls Try.prog 3 #[.slice a l.length c, .int .i64 x, .int .i64 d] w fun e w' => e = .returned (.bool true) ∧ Below w.heap.size w w' := by
  by_cases hl : 100 < l.length
  · exact walk_long a c l x d w R hl
  · exact walk_short a c l x d w R (by omega)

theorem own : ownKnob Try.prog.godebug = none := by kernel_rfl
theorem laidOut : laidOutB Try.prog = true := by kernel_rfl
set_option maxRecDepth 100000 in
theorem lifted (os : Os) (started : os.Started) (H : Type) (enc : TypeId × Value → H) :
    ReturnsInHanded {} Try.checked os 3 .any (Rows.pickTellsSpec.pre6 enc Try.prog Try.f3 Rows.pickTellsRow.domain false) (Rows.pickTellsSpec.post enc Try.prog Try.f3 false true false false) := by
  refine returnsInHanded_of_change (C := Try.checked) own started (by kernel_rfl) Try.func3
    (ChangeSpec.witness6 (enc := enc) (C := Try.checked) false ⟨#[], #[.slice none 0 0, .int .i64 0, .int .i64 0], []⟩ 8 (by kernel_rfl) (by kernel_rfl) (by kernel_rfl) (by kernel_rfl)) ?_
  intro W base args ds gs before hval0 hW hcnd _
  have hval : ∀ (j : Nat) t v, Try.f3.params[j]? = some t → args[j]? = some v → Value.okWide Try.prog W .any base t v := hval0
  have hW' := hW
  obtain ⟨p, q, hA0, hV, rfl, hfz, hnd⟩ := hW
  have hA : DataW.TrodAll enc Try.prog W 0 (fun _ => true) true Try.f3.params.toList args.toList ds p := hA0
  rw [Try.params3] at hA hval
  obtain ⟨v0, vs0, d0, ds0, p0, q0, hargs, rfl, rfl, h0, r0⟩ := trodAll_cons hA
  obtain ⟨v1, vs1, d1, ds1, p1, q1, rfl, rfl, rfl, h1, r1⟩ := trodAll_cons r0
  obtain ⟨v2, vs2, d2, ds2, p2, q2, rfl, rfl, rfl, h2, r2⟩ := trodAll_cons r1
  obtain ⟨rfl, rfl, rfl⟩ := trodAll_nil r2
  obtain rfl : args = #[v0, v1, v2] := by cases args; simp_all
  obtain ⟨rfl, rfl⟩ := trodVars_none hV
  obtain ⟨a0, n0, c0, rfl⟩ := okWide_slice Try.underlying22 (hval 0 22 v0 rfl rfl)
  have k0 := h0
  have lt0 : ∀ x ∈ p0, x.block < W.heap.size := by obtain ⟨m, hm⟩ := k0; exact DataW.trod_lt m _ _ _ hm
  have k1 := h1
  have lt1 : ∀ x ∈ p1, x.block < W.heap.size := by obtain ⟨m, hm⟩ := k1; exact DataW.trod_lt m _ _ _ hm
  have k2 := h2
  have lt2 : ∀ x ∈ p2, x.block < W.heap.size := by obtain ⟨m, hm⟩ := k2; exact DataW.trod_lt m _ _ _ hm
  obtain ⟨l0, el0, R0⟩ : ∃ l : List Pk.Rl, n0 = List.length l ∧ Rds fR 6 W a0 c0 l := by
    obtain ⟨fuel, hf⟩ := h0
    exact rds_of_trod Try.underlying22 (by kernel_rfl) (fun _ => rfl) (by decide) fR_len elemR (by simpa [Value.cells] using hf)
  subst el0
  obtain ⟨a1, rfl, rfl, hp1, w1⟩ := open_int Try.underlying3 (hval 1 3 v1 rfl rfl) h1
  obtain ⟨a2, rfl, rfl, hp2, w2⟩ := open_int Try.underlying3 (hval 2 3 v2 rfl rfl) h2
  clear hA0 hval0
  refine (walk a0 c0 l0 a1 a2 w1 w2 W R0).mono fun e W' ⟨he, bel⟩ => ?_
  subst he
  exact ⟨_, rfl, _, _, _, [], _, [], hW', trodAll_mk1 (shut_bool Try.underlying4 _), (trodAll_cons_mk (Below.trod laidOut (by kernel_rfl) (of_decide_eq_true (by kernel_rfl)) k0 bel lt0) (trodAll_cons_mk (Below.trod laidOut (by kernel_rfl) (of_decide_eq_true (by kernel_rfl)) k1 bel lt1) (trodAll_cons_mk (Below.trod laidOut (by kernel_rfl) (of_decide_eq_true (by kernel_rfl)) k2 bel lt2) trodAll_mk0))), rfl, bel.frame _, fun h => by cases h⟩

theorem over : Rows.pickTellsRow.holds Try.pinned (OpenSpec.ofChange Rows.pickTellsSpec) :=
  OpenClaim.holds_of_wide 3 Try.f3 rfl rfl rfl rfl rfl rfl rfl ⟨rfl, rfl, rfl, rfl, rfl⟩ rfl rfl rfl rfl rfl (by kernel_rfl) Try.func3 (by kernel_rfl)
    (of_decide_eq_true (by kernel_rfl)) (by unfold Func.isWrapper; first | (rw [if_pos (by decide +kernel)]; kernel_rfl) | (rw [if_neg (by decide +kernel)]; exact ⟨rfl, rfl⟩))
    (fun os started H enc _ => lifted os started H enc)
end Go.Proofs.Ytbjgnlednkegiaa.pickTells
namespace Go.Proofs.Ytbjgnlednkegiaa
theorem pickTells_holds : Rows.PickTellsSaid := pickTells.over
#print axioms pickTells_holds
end Go.Proofs.Ytbjgnlednkegiaa
