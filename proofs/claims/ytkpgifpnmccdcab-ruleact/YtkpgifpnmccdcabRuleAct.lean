/- Proved: for all rules a and b, every action act and all ints in and dst the call RuleAct(a, b, act, in, dst) returns true: what a rule does does not matter to which packets it is for, and where it stands. No condition. -/
import Derived.Test.YtkpgifpnmccdcabRuleAhead
import Derived.Test.YtkpgifpnmccdcabRulePut
import Derived.Test.YtkpgifpnmccdcabRuleOpen
import Derived.Lib.SmallJoins
namespace Go.Proofs.Ytkpgifpnmccdcab.ruleAct
open Go.ChangeShapes Go.WideShapes Go.ChangeAt Go.RowKit R
set_option linter.unusedVariables false

theorem like_same (a n i p : Int) : likeB a n i p a n i p = true := by unfold likeB; simp
theorem kept_act {w w' w2 : World} {B1 B2 B4 : Nat} {a n i p k t b m j q l u kk tt : Int} (h : Below w.heap.size w w' ∧ B1 < w'.heap.size ∧ B2 < w'.heap.size ∧ B4 < w'.heap.size ∧ w'.cell? ⟨B1, 0, none⟩ = some (.int .i64 a) ∧ w'.cell? ⟨B1, 1, none⟩ = some (.int .i64 n) ∧ w'.cell? ⟨B1, 2, none⟩ = some (.int .i64 i) ∧ w'.cell? ⟨B1, 3, none⟩ = some (.int .i64 p) ∧ w'.cell? ⟨B1, 4, none⟩ = some (.int .i64 k) ∧ w'.cell? ⟨B1, 5, none⟩ = some (.int .i64 t) ∧ w'.cell? ⟨B2, 0, none⟩ = some (.int .i64 b) ∧ w'.cell? ⟨B2, 1, none⟩ = some (.int .i64 m) ∧ w'.cell? ⟨B2, 2, none⟩ = some (.int .i64 j) ∧ w'.cell? ⟨B2, 3, none⟩ = some (.int .i64 q) ∧ w'.cell? ⟨B2, 4, none⟩ = some (.int .i64 l) ∧ w'.cell? ⟨B2, 5, none⟩ = some (.int .i64 u) ∧ w'.cell? ⟨B4, 0, none⟩ = some (.int .i64 a) ∧ w'.cell? ⟨B4, 1, none⟩ = some (.int .i64 n) ∧ w'.cell? ⟨B4, 2, none⟩ = some (.int .i64 i) ∧ w'.cell? ⟨B4, 3, none⟩ = some (.int .i64 p) ∧ w'.cell? ⟨B4, 4, none⟩ = some (.int .i64 kk) ∧ w'.cell? ⟨B4, 5, none⟩ = some (.int .i64 tt)) (hb : Below w'.heap.size w' w2) :
    Below w.heap.size w w2 ∧ B1 < w2.heap.size ∧ B2 < w2.heap.size ∧ B4 < w2.heap.size ∧ w2.cell? ⟨B1, 0, none⟩ = some (.int .i64 a) ∧ w2.cell? ⟨B1, 1, none⟩ = some (.int .i64 n) ∧ w2.cell? ⟨B1, 2, none⟩ = some (.int .i64 i) ∧ w2.cell? ⟨B1, 3, none⟩ = some (.int .i64 p) ∧ w2.cell? ⟨B1, 4, none⟩ = some (.int .i64 k) ∧ w2.cell? ⟨B1, 5, none⟩ = some (.int .i64 t) ∧ w2.cell? ⟨B2, 0, none⟩ = some (.int .i64 b) ∧ w2.cell? ⟨B2, 1, none⟩ = some (.int .i64 m) ∧ w2.cell? ⟨B2, 2, none⟩ = some (.int .i64 j) ∧ w2.cell? ⟨B2, 3, none⟩ = some (.int .i64 q) ∧ w2.cell? ⟨B2, 4, none⟩ = some (.int .i64 l) ∧ w2.cell? ⟨B2, 5, none⟩ = some (.int .i64 u) ∧ w2.cell? ⟨B4, 0, none⟩ = some (.int .i64 a) ∧ w2.cell? ⟨B4, 1, none⟩ = some (.int .i64 n) ∧ w2.cell? ⟨B4, 2, none⟩ = some (.int .i64 i) ∧ w2.cell? ⟨B4, 3, none⟩ = some (.int .i64 p) ∧ w2.cell? ⟨B4, 4, none⟩ = some (.int .i64 kk) ∧ w2.cell? ⟨B4, 5, none⟩ = some (.int .i64 tt) := by
  obtain ⟨h0, r0, r1, r2, c0, c1, c2, c3, c4, c5, c6, c7, c8, c9, c10, c11, c12, c13, c14, c15, c16, c17⟩ := h
  exact ⟨below_step h0 hb, Nat.lt_of_lt_of_le r0 hb.size, Nat.lt_of_lt_of_le r1 hb.size, Nat.lt_of_lt_of_le r2 hb.size, (hb.cell (p := ⟨B1, 0, none⟩) r0).trans c0, (hb.cell (p := ⟨B1, 1, none⟩) r0).trans c1, (hb.cell (p := ⟨B1, 2, none⟩) r0).trans c2, (hb.cell (p := ⟨B1, 3, none⟩) r0).trans c3, (hb.cell (p := ⟨B1, 4, none⟩) r0).trans c4, (hb.cell (p := ⟨B1, 5, none⟩) r0).trans c5, (hb.cell (p := ⟨B2, 0, none⟩) r1).trans c6, (hb.cell (p := ⟨B2, 1, none⟩) r1).trans c7, (hb.cell (p := ⟨B2, 2, none⟩) r1).trans c8, (hb.cell (p := ⟨B2, 3, none⟩) r1).trans c9, (hb.cell (p := ⟨B2, 4, none⟩) r1).trans c10, (hb.cell (p := ⟨B2, 5, none⟩) r1).trans c11, (hb.cell (p := ⟨B4, 0, none⟩) r2).trans c12, (hb.cell (p := ⟨B4, 1, none⟩) r2).trans c13, (hb.cell (p := ⟨B4, 2, none⟩) r2).trans c14, (hb.cell (p := ⟨B4, 3, none⟩) r2).trans c15, (hb.cell (p := ⟨B4, 4, none⟩) r2).trans c16, (hb.cell (p := ⟨B4, 5, none⟩) r2).trans c17⟩
set_option maxHeartbeats 4000000 in
theorem walk (a n i p k t b m j q l u kk tt x d : Int) (wa : (Lit.int .i64 a).wf = true) (wn : (Lit.int .i64 n).wf = true) (wi : (Lit.int .i64 i).wf = true) (wp : (Lit.int .i64 p).wf = true) (wk : (Lit.int .i64 k).wf = true) (wt : (Lit.int .i64 t).wf = true) (wb : (Lit.int .i64 b).wf = true) (wm : (Lit.int .i64 m).wf = true) (wj : (Lit.int .i64 j).wf = true) (wq : (Lit.int .i64 q).wf = true) (wl : (Lit.int .i64 l).wf = true) (wu : (Lit.int .i64 u).wf = true) (wkk : (Lit.int .i64 kk).wf = true) (wtt : (Lit.int .i64 tt).wf = true) (wx : (Lit.int .i64 x).wf = true) (wd : (Lit.int .i64 d).wf = true) (w : World) :
    Calls Try.prog 3 #[.agg #[.int .i64 a, .int .i64 n, .int .i64 i, .int .i64 p, .int .i64 k, .int .i64 t], .agg #[.int .i64 b, .int .i64 m, .int .i64 j, .int .i64 q, .int .i64 l, .int .i64 u], .agg #[.int .i64 kk, .int .i64 tt], .int .i64 x, .int .i64 d] w fun e w' => e = .returned (.bool true) ∧ Below w.heap.size w w' := by
  clear wa wn wi wp wk wt wb wm wj wq wl wu wkk wtt wx wd
  have hsame := like_same a n i p
  have hn0 := below_new w (.cells #[.int .i64 a, .int .i64 n, .int .i64 i, .int .i64 p, .int .i64 k, .int .i64 t] 27)
  have X0 := Lies.new w [a, n, i, p, k, t] 27 (B := w.heap.size) rfl
  have hB := hn0
  have hn1 := below_new (w.alloc (.cells #[.int .i64 a, .int .i64 n, .int .i64 i, .int .i64 p, .int .i64 k, .int .i64 t] 27)) (.cells #[.int .i64 b, .int .i64 m, .int .i64 j, .int .i64 q, .int .i64 l, .int .i64 u] 27)
  have X1 := Lies.new (w.alloc (.cells #[.int .i64 a, .int .i64 n, .int .i64 i, .int .i64 p, .int .i64 k, .int .i64 t] 27)) [b, m, j, q, l, u] 27 (B := w.heap.size + 1) (by simp)
  replace X0 := X0.later hn1
  replace hB := below_step hB hn1
  have hn2 := below_new ((w.alloc (.cells #[.int .i64 a, .int .i64 n, .int .i64 i, .int .i64 p, .int .i64 k, .int .i64 t] 27)).alloc (.cells #[.int .i64 b, .int .i64 m, .int .i64 j, .int .i64 q, .int .i64 l, .int .i64 u] 27)) (.cells #[.int .i64 kk, .int .i64 tt] 25)
  have X2 := Lies.new ((w.alloc (.cells #[.int .i64 a, .int .i64 n, .int .i64 i, .int .i64 p, .int .i64 k, .int .i64 t] 27)).alloc (.cells #[.int .i64 b, .int .i64 m, .int .i64 j, .int .i64 q, .int .i64 l, .int .i64 u] 27)) [kk, tt] 25 (B := w.heap.size + 1 + 1) (by simp)
  replace X0 := X0.later hn2
  replace X1 := X1.later hn2
  replace hB := below_step hB hn2
  clear hn0 hn1 hn2
  obtain ⟨x00, x01, x02, x03, x04, x05⟩ := X0.six
  obtain ⟨x10, x11, x12, x13, x14, x15⟩ := X1.six
  obtain ⟨x20, x21⟩ := X2.two
  go_enter Try.func3, Try.ntmps3
  go_wp2_with fail
  refine (awake_any _).mono ?_
  rintro e w1 ⟨rfl, hb1⟩
  clear x00 x01 x02 x03 x04 x05
  clear x10 x11 x12 x13 x14 x15
  clear x20 x21
  replace X0 := X0.later hb1
  replace X1 := X1.later hb1
  replace X2 := X2.later hb1
  replace hB := below_step hB hb1
  clear hb1
  obtain ⟨x00, x01, x02, x03, x04, x05⟩ := X0.six
  obtain ⟨x10, x11, x12, x13, x14, x15⟩ := X1.six
  obtain ⟨x20, x21⟩ := X2.two
  have hq0 := below_new w1 (.cells #[.int .i64 a, .int .i64 n, .int .i64 i, .int .i64 p, .int .i64 k, .int .i64 t] 27)
  obtain ⟨x0q0, x0q1, x0q2, x0q3, x0q4, x0q5⟩ := (X0.later hq0).six
  obtain ⟨x1q0, x1q1, x1q2, x1q3, x1q4, x1q5⟩ := (X1.later hq0).six
  obtain ⟨x2q0, x2q1⟩ := (X2.later hq0).two
  clear hq0
  have hv0 := below_new w1 (.cells #[.int .i64 a, .int .i64 n, .int .i64 i, .int .i64 p, .int .i64 kk, .int .i64 tt] 27)
  replace X0 := X0.later hv0
  replace X1 := X1.later hv0
  replace X2 := X2.later hv0
  replace hB := below_step hB hv0
  clear hv0
  have V0 := Lies.new w1 [a, n, i, p, kk, tt] 27 (B := w1.heap.size) rfl
  obtain ⟨x00, x01, x02, x03, x04, x05⟩ := X0.six
  obtain ⟨x10, x11, x12, x13, x14, x15⟩ := X1.six
  obtain ⟨x20, x21⟩ := X2.two
  obtain ⟨v00, v01, v02, v03, v04, v05⟩ := V0.six
  have S0 : Below w.heap.size w (w1.alloc (.cells #[.int .i64 a, .int .i64 n, .int .i64 i, .int .i64 p, .int .i64 kk, .int .i64 tt] 27)).drew ∧ w.heap.size < (w1.alloc (.cells #[.int .i64 a, .int .i64 n, .int .i64 i, .int .i64 p, .int .i64 kk, .int .i64 tt] 27)).drew.heap.size ∧ w.heap.size + 1 < (w1.alloc (.cells #[.int .i64 a, .int .i64 n, .int .i64 i, .int .i64 p, .int .i64 kk, .int .i64 tt] 27)).drew.heap.size ∧ w1.heap.size < (w1.alloc (.cells #[.int .i64 a, .int .i64 n, .int .i64 i, .int .i64 p, .int .i64 kk, .int .i64 tt] 27)).drew.heap.size ∧ (w1.alloc (.cells #[.int .i64 a, .int .i64 n, .int .i64 i, .int .i64 p, .int .i64 kk, .int .i64 tt] 27)).drew.cell? ⟨w.heap.size, 0, none⟩ = some (.int .i64 a) ∧ (w1.alloc (.cells #[.int .i64 a, .int .i64 n, .int .i64 i, .int .i64 p, .int .i64 kk, .int .i64 tt] 27)).drew.cell? ⟨w.heap.size, 1, none⟩ = some (.int .i64 n) ∧ (w1.alloc (.cells #[.int .i64 a, .int .i64 n, .int .i64 i, .int .i64 p, .int .i64 kk, .int .i64 tt] 27)).drew.cell? ⟨w.heap.size, 2, none⟩ = some (.int .i64 i) ∧ (w1.alloc (.cells #[.int .i64 a, .int .i64 n, .int .i64 i, .int .i64 p, .int .i64 kk, .int .i64 tt] 27)).drew.cell? ⟨w.heap.size, 3, none⟩ = some (.int .i64 p) ∧ (w1.alloc (.cells #[.int .i64 a, .int .i64 n, .int .i64 i, .int .i64 p, .int .i64 kk, .int .i64 tt] 27)).drew.cell? ⟨w.heap.size, 4, none⟩ = some (.int .i64 k) ∧ (w1.alloc (.cells #[.int .i64 a, .int .i64 n, .int .i64 i, .int .i64 p, .int .i64 kk, .int .i64 tt] 27)).drew.cell? ⟨w.heap.size, 5, none⟩ = some (.int .i64 t) ∧ (w1.alloc (.cells #[.int .i64 a, .int .i64 n, .int .i64 i, .int .i64 p, .int .i64 kk, .int .i64 tt] 27)).drew.cell? ⟨w.heap.size + 1, 0, none⟩ = some (.int .i64 b) ∧ (w1.alloc (.cells #[.int .i64 a, .int .i64 n, .int .i64 i, .int .i64 p, .int .i64 kk, .int .i64 tt] 27)).drew.cell? ⟨w.heap.size + 1, 1, none⟩ = some (.int .i64 m) ∧ (w1.alloc (.cells #[.int .i64 a, .int .i64 n, .int .i64 i, .int .i64 p, .int .i64 kk, .int .i64 tt] 27)).drew.cell? ⟨w.heap.size + 1, 2, none⟩ = some (.int .i64 j) ∧ (w1.alloc (.cells #[.int .i64 a, .int .i64 n, .int .i64 i, .int .i64 p, .int .i64 kk, .int .i64 tt] 27)).drew.cell? ⟨w.heap.size + 1, 3, none⟩ = some (.int .i64 q) ∧ (w1.alloc (.cells #[.int .i64 a, .int .i64 n, .int .i64 i, .int .i64 p, .int .i64 kk, .int .i64 tt] 27)).drew.cell? ⟨w.heap.size + 1, 4, none⟩ = some (.int .i64 l) ∧ (w1.alloc (.cells #[.int .i64 a, .int .i64 n, .int .i64 i, .int .i64 p, .int .i64 kk, .int .i64 tt] 27)).drew.cell? ⟨w.heap.size + 1, 5, none⟩ = some (.int .i64 u) ∧ (w1.alloc (.cells #[.int .i64 a, .int .i64 n, .int .i64 i, .int .i64 p, .int .i64 kk, .int .i64 tt] 27)).drew.cell? ⟨w1.heap.size, 0, none⟩ = some (.int .i64 a) ∧ (w1.alloc (.cells #[.int .i64 a, .int .i64 n, .int .i64 i, .int .i64 p, .int .i64 kk, .int .i64 tt] 27)).drew.cell? ⟨w1.heap.size, 1, none⟩ = some (.int .i64 n) ∧ (w1.alloc (.cells #[.int .i64 a, .int .i64 n, .int .i64 i, .int .i64 p, .int .i64 kk, .int .i64 tt] 27)).drew.cell? ⟨w1.heap.size, 2, none⟩ = some (.int .i64 i) ∧ (w1.alloc (.cells #[.int .i64 a, .int .i64 n, .int .i64 i, .int .i64 p, .int .i64 kk, .int .i64 tt] 27)).drew.cell? ⟨w1.heap.size, 3, none⟩ = some (.int .i64 p) ∧ (w1.alloc (.cells #[.int .i64 a, .int .i64 n, .int .i64 i, .int .i64 p, .int .i64 kk, .int .i64 tt] 27)).drew.cell? ⟨w1.heap.size, 4, none⟩ = some (.int .i64 kk) ∧ (w1.alloc (.cells #[.int .i64 a, .int .i64 n, .int .i64 i, .int .i64 p, .int .i64 kk, .int .i64 tt] 27)).drew.cell? ⟨w1.heap.size, 5, none⟩ = some (.int .i64 tt) := ⟨hB.drew, X0.lt, X1.lt, V0.lt, x00, x01, x02, x03, x04, x05, x10, x11, x12, x13, x14, x15, v00, v01, v02, v03, v04, v05⟩
  clear X0 X1 X2 V0
  go_wp2_with fail
  go_region_held3 (fun w' => Below w.heap.size w w' ∧ w.heap.size < w'.heap.size ∧ w.heap.size + 1 < w'.heap.size ∧ w1.heap.size < w'.heap.size ∧ w'.cell? ⟨w.heap.size, 0, none⟩ = some (.int .i64 a) ∧ w'.cell? ⟨w.heap.size, 1, none⟩ = some (.int .i64 n) ∧ w'.cell? ⟨w.heap.size, 2, none⟩ = some (.int .i64 i) ∧ w'.cell? ⟨w.heap.size, 3, none⟩ = some (.int .i64 p) ∧ w'.cell? ⟨w.heap.size, 4, none⟩ = some (.int .i64 k) ∧ w'.cell? ⟨w.heap.size, 5, none⟩ = some (.int .i64 t) ∧ w'.cell? ⟨w.heap.size + 1, 0, none⟩ = some (.int .i64 b) ∧ w'.cell? ⟨w.heap.size + 1, 1, none⟩ = some (.int .i64 m) ∧ w'.cell? ⟨w.heap.size + 1, 2, none⟩ = some (.int .i64 j) ∧ w'.cell? ⟨w.heap.size + 1, 3, none⟩ = some (.int .i64 q) ∧ w'.cell? ⟨w.heap.size + 1, 4, none⟩ = some (.int .i64 l) ∧ w'.cell? ⟨w.heap.size + 1, 5, none⟩ = some (.int .i64 u) ∧ w'.cell? ⟨w1.heap.size, 0, none⟩ = some (.int .i64 a) ∧ w'.cell? ⟨w1.heap.size, 1, none⟩ = some (.int .i64 n) ∧ w'.cell? ⟨w1.heap.size, 2, none⟩ = some (.int .i64 i) ∧ w'.cell? ⟨w1.heap.size, 3, none⟩ = some (.int .i64 p) ∧ w'.cell? ⟨w1.heap.size, 4, none⟩ = some (.int .i64 kk) ∧ w'.cell? ⟨w1.heap.size, 5, none⟩ = some (.int .i64 tt))
    (first | assumption | exact kept_act (by assumption) (by assumption))
    (first | (go_at_call 6; refine (ruFits_any _ _ _ _ _ _ _ _ _).mono ?_; rintro e wq ⟨rfl, hbq⟩) | (go_at_call 7; refine (ruAhead_any _ _ _ _ _ _ _ _ _ _ _ _ _).mono ?_; rintro e wq ⟨rfl, hbq⟩) | (go_at_call 8; refine (ruAlike_any _ _ _ _ _ _ _ _ _ _ _ _ _).mono ?_; rintro e wq ⟨rfl, hbq⟩))
  go_wp2_with fail
  go_ret
  exact ⟨rfl, (by assumption : Below w.heap.size w _ ∧ _).1⟩

theorem own : ownKnob Try.prog.godebug = none := by kernel_rfl
theorem laidOut : laidOutB Try.prog = true := by kernel_rfl
set_option maxRecDepth 100000 in
theorem lifted (os : Os) (started : os.Started) (H : Type) (enc : TypeId × Value → H) :
    ReturnsInHanded {} Try.checked os 3 .any (Rows.ruleActSpec.pre6 enc Try.prog Try.f3 Rows.ruleActRow.domain false) (Rows.ruleActSpec.post enc Try.prog Try.f3 false true false false) := by
  refine returnsInHanded_of_change (C := Try.checked) own started (by kernel_rfl) Try.func3
    (ChangeSpec.witness6 (enc := enc) (C := Try.checked) false ⟨#[], #[.agg #[.int .i64 0, .int .i64 0, .int .i64 0, .int .i64 0, .int .i64 0, .int .i64 0], .agg #[.int .i64 0, .int .i64 0, .int .i64 0, .int .i64 0, .int .i64 0, .int .i64 0], .agg #[.int .i64 0, .int .i64 0], .int .i64 0, .int .i64 0], []⟩ 8 (by kernel_rfl) (by kernel_rfl) (by kernel_rfl) (by kernel_rfl)) ?_
  intro W base args ds gs before hval0 hW hcnd _
  have hval : ∀ (j : Nat) t v, Try.f3.params[j]? = some t → args[j]? = some v → Value.okWide Try.prog W .any base t v := hval0
  have hW' := hW
  obtain ⟨p, q, hA0, hV, rfl, hfz, hnd⟩ := hW
  have hA : DataW.TrodAll enc Try.prog W 0 (fun _ => true) true Try.f3.params.toList args.toList ds p := hA0
  rw [Try.params3] at hA hval
  obtain ⟨v0, vs0, d0, ds0, p0, q0, hargs, rfl, rfl, h0, r0⟩ := trodAll_cons hA
  obtain ⟨v1, vs1, d1, ds1, p1, q1, rfl, rfl, rfl, h1, r1⟩ := trodAll_cons r0
  obtain ⟨v2, vs2, d2, ds2, p2, q2, rfl, rfl, rfl, h2, r2⟩ := trodAll_cons r1
  obtain ⟨v3, vs3, d3, ds3, p3, q3, rfl, rfl, rfl, h3, r3⟩ := trodAll_cons r2
  obtain ⟨v4, vs4, d4, ds4, p4, q4, rfl, rfl, rfl, h4, r4⟩ := trodAll_cons r3
  obtain ⟨rfl, rfl, rfl⟩ := trodAll_nil r4
  obtain rfl : args = #[v0, v1, v2, v3, v4] := by cases args; simp_all
  obtain ⟨rfl, rfl⟩ := trodVars_none hV
  have k0 := h0
  have lt0 : ∀ x ∈ p0, x.block < W.heap.size := by obtain ⟨m, hm⟩ := k0; exact DataW.trod_lt m _ _ _ hm
  have k1 := h1
  have lt1 : ∀ x ∈ p1, x.block < W.heap.size := by obtain ⟨m, hm⟩ := k1; exact DataW.trod_lt m _ _ _ hm
  have k2 := h2
  have lt2 : ∀ x ∈ p2, x.block < W.heap.size := by obtain ⟨m, hm⟩ := k2; exact DataW.trod_lt m _ _ _ hm
  have k3 := h3
  have lt3 : ∀ x ∈ p3, x.block < W.heap.size := by obtain ⟨m, hm⟩ := k3; exact DataW.trod_lt m _ _ _ hm
  have k4 := h4
  have lt4 : ∀ x ∈ p4, x.block < W.heap.size := by obtain ⟨m, hm⟩ := k4; exact DataW.trod_lt m _ _ _ hm
  obtain ⟨a0, b0, c0, d0, e0, f0, rfl, w0a, w0b, w0c, w0d, w0e, w0f⟩ := open_rule (hval 0 27 v0 rfl rfl) h0
  obtain ⟨a1, b1, c1, d1, e1, f1, rfl, w1a, w1b, w1c, w1d, w1e, w1f⟩ := open_rule (hval 1 27 v1 rfl rfl) h1
  obtain ⟨x2a, x2b, y2a, y2b, n2, rfl, rfl, hp2, t2a, t2b⟩ := Go.Joins.open_agg2 Try.underlying25 (by kernel_rfl) (by kernel_rfl) (hval 2 25 v2 rfl rfl) h2
  obtain ⟨a2, e2a, f2a, w2a⟩ := DataW.trod_int Try.underlying3 t2a
  obtain rfl : x2a = .int .i64 a2 := by simpa using e2a
  obtain ⟨b2, e2b, f2b, w2b⟩ := DataW.trod_int Try.underlying3 t2b
  obtain rfl : x2b = .int .i64 b2 := by simpa using e2b
  obtain ⟨a3, rfl, rfl, hp3, w3⟩ := open_int Try.underlying3 (hval 3 3 v3 rfl rfl) h3
  obtain ⟨a4, rfl, rfl, hp4, w4⟩ := open_int Try.underlying3 (hval 4 3 v4 rfl rfl) h4
  clear hA0 hval0
  refine (walk a0 b0 c0 d0 e0 f0 a1 b1 c1 d1 e1 f1 a2 b2 a3 a4 w0a w0b w0c w0d w0e w0f w1a w1b w1c w1d w1e w1f w2a w2b w3 w4 W ).mono fun e W' ⟨he, bel⟩ => ?_
  subst he
  exact ⟨_, rfl, _, _, _, [], _, [], hW', trodAll_mk1 (shut_bool Try.underlying4 _), (trodAll_cons_mk (Below.trod laidOut (by kernel_rfl) (of_decide_eq_true (by kernel_rfl)) k0 bel lt0) (trodAll_cons_mk (Below.trod laidOut (by kernel_rfl) (of_decide_eq_true (by kernel_rfl)) k1 bel lt1) (trodAll_cons_mk (Below.trod laidOut (by kernel_rfl) (of_decide_eq_true (by kernel_rfl)) k2 bel lt2) (trodAll_cons_mk (Below.trod laidOut (by kernel_rfl) (of_decide_eq_true (by kernel_rfl)) k3 bel lt3) (trodAll_cons_mk (Below.trod laidOut (by kernel_rfl) (of_decide_eq_true (by kernel_rfl)) k4 bel lt4) trodAll_mk0))))), rfl, bel.frame _, fun h => by cases h⟩

theorem over : Rows.ruleActRow.holds Try.pinned (OpenSpec.ofChange Rows.ruleActSpec) :=
  OpenClaim.holds_of_wide 3 Try.f3 rfl rfl rfl rfl rfl rfl rfl ⟨rfl, rfl, rfl, rfl, rfl⟩ rfl rfl rfl rfl rfl (by kernel_rfl) Try.func3 (by kernel_rfl)
    (of_decide_eq_true (by kernel_rfl)) (by unfold Func.isWrapper; first | (rw [if_pos (by decide +kernel)]; kernel_rfl) | (rw [if_neg (by decide +kernel)]; exact ⟨rfl, rfl⟩))
    (fun os started H enc _ => lifted os started H enc)
end Go.Proofs.Ytkpgifpnmccdcab.ruleAct
namespace Go.Proofs.Ytkpgifpnmccdcab
theorem ruleAct_holds : Rows.RuleActSaid := ruleAct.over
#print axioms ruleAct_holds
end Go.Proofs.Ytkpgifpnmccdcab
