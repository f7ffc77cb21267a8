/- Proved: for all rules a and b and all ints in and dst the call RuleTells(a, b, in, dst) returns true: whether a rule may be, fits, is ahead or alike, and its bytes, are what the document says. No condition. -/
import Derived.Test.YtkpgifpnmccdcaaRuleRefs
import Derived.Test.YtkpgifpnmccdcaaRuleOpen
import Derived.Test.YtkpgifpnmccdcaaRuleAhead
import Derived.Lib.SmallJoins
namespace Go.Proofs.Ytkpgifpnmccdcaa.ruleTells
open Go.ChangeShapes Go.WideShapes Go.ChangeAt Go.RowKit R
set_option linter.unusedVariables false


set_option maxHeartbeats 2000000 in
theorem tells_ok (a n i p k t b m j q l u x d : Int) (w : World) (hk : okR a n i p k t = true) :
    Calls Try.prog 3 #[.agg #[.int .i64 a, .int .i64 n, .int .i64 i, .int .i64 p, .int .i64 k, .int .i64 t], .agg #[.int .i64 b, .int .i64 m, .int .i64 j, .int .i64 q, .int .i64 l, .int .i64 u], .int .i64 x, .int .i64 d] w fun e w' => e = .returned (.bool true) ∧ Below w.heap.size w w' := by
  have hn0 := below_new w (.cells #[.int .i64 a, .int .i64 n, .int .i64 i, .int .i64 p, .int .i64 k, .int .i64 t] 27)
  have X0 := Lies.new w [a, n, i, p, k, t] 27 (B := w.heap.size) rfl
  have hB := hn0
  have hn1 := below_new (w.alloc (.cells #[.int .i64 a, .int .i64 n, .int .i64 i, .int .i64 p, .int .i64 k, .int .i64 t] 27)) (.cells #[.int .i64 b, .int .i64 m, .int .i64 j, .int .i64 q, .int .i64 l, .int .i64 u] 27)
  have X1 := Lies.new (w.alloc (.cells #[.int .i64 a, .int .i64 n, .int .i64 i, .int .i64 p, .int .i64 k, .int .i64 t] 27)) [b, m, j, q, l, u] 27 (B := w.heap.size + 1) (by simp)
  replace X0 := X0.later hn1
  replace hB := below_step hB hn1
  clear hn0 hn1
  obtain ⟨x00, x01, x02, x03, x04, x05⟩ := X0.six
  obtain ⟨x10, x11, x12, x13, x14, x15⟩ := X1.six
  have hl := body_len hk
  go_enter Try.func3, Try.ntmps3
  go_wp2_with fail
  refine (awake_any _).mono ?_
  rintro e w1 ⟨rfl, hb1⟩
  clear x00 x01 x02 x03 x04 x05
  clear x10 x11 x12 x13 x14 x15
  replace X0 := X0.later hb1
  replace X1 := X1.later hb1
  replace hB := below_step hB hb1
  clear hb1
  obtain ⟨x00, x01, x02, x03, x04, x05⟩ := X0.six
  obtain ⟨x10, x11, x12, x13, x14, x15⟩ := X1.six
  go_wp2_with fail
  refine (ruPut_ok hk _).mono ?_
  rintro e w2 ⟨a2, k2, rfl, R2, _, hb2⟩
  clear x00 x01 x02 x03 x04 x05
  clear x10 x11 x12 x13 x14 x15
  replace X0 := X0.later hb2
  replace X1 := X1.later hb2
  replace hB := below_step hB hb2
  clear hb2
  obtain ⟨x00, x01, x02, x03, x04, x05⟩ := X0.six
  obtain ⟨x10, x11, x12, x13, x14, x15⟩ := X1.six
  go_wp2_with fail
  refine (rrPut_ok hk _).mono ?_
  rintro e w3 ⟨a3, k3, rfl, R3, hb3⟩
  clear x00 x01 x02 x03 x04 x05
  clear x10 x11 x12 x13 x14 x15
  replace X0 := X0.later hb3
  replace X1 := X1.later hb3
  replace R2 := R2.later hb3
  replace hB := below_step hB hb3
  clear hb3
  obtain ⟨x00, x01, x02, x03, x04, x05⟩ := X0.six
  obtain ⟨x10, x11, x12, x13, x14, x15⟩ := X1.six
  go_wp2_with fail
  refine (rrMay_any a n i p k t _).mono ?_
  rintro e w4 ⟨rfl, hb4⟩
  clear x00 x01 x02 x03 x04 x05
  clear x10 x11 x12 x13 x14 x15
  replace X0 := X0.later hb4
  replace X1 := X1.later hb4
  replace R2 := R2.later hb4
  replace R3 := R3.later hb4
  replace hB := below_step hB hb4
  clear hb4
  obtain ⟨x00, x01, x02, x03, x04, x05⟩ := X0.six
  obtain ⟨x10, x11, x12, x13, x14, x15⟩ := X1.six
  go_wp2_with fail
  refine (rrFits_any a n i p k t x d _).mono ?_
  rintro e w5 ⟨rfl, hb5⟩
  clear x00 x01 x02 x03 x04 x05
  clear x10 x11 x12 x13 x14 x15
  replace X0 := X0.later hb5
  replace X1 := X1.later hb5
  replace R2 := R2.later hb5
  replace R3 := R3.later hb5
  replace hB := below_step hB hb5
  clear hb5
  obtain ⟨x00, x01, x02, x03, x04, x05⟩ := X0.six
  obtain ⟨x10, x11, x12, x13, x14, x15⟩ := X1.six
  go_wp2_with fail
  refine (rrAhead_any a n i p k t b m j q l u _).mono ?_
  rintro e w6 ⟨rfl, hb6⟩
  clear x00 x01 x02 x03 x04 x05
  clear x10 x11 x12 x13 x14 x15
  replace X0 := X0.later hb6
  replace X1 := X1.later hb6
  replace R2 := R2.later hb6
  replace R3 := R3.later hb6
  replace hB := below_step hB hb6
  clear hb6
  obtain ⟨x00, x01, x02, x03, x04, x05⟩ := X0.six
  obtain ⟨x10, x11, x12, x13, x14, x15⟩ := X1.six
  go_wp2_with fail
  refine (rrAlike_any a n i p k t b m j q l u _).mono ?_
  rintro e w7 ⟨rfl, hb7⟩
  clear x00 x01 x02 x03 x04 x05
  clear x10 x11 x12 x13 x14 x15
  replace X0 := X0.later hb7
  replace X1 := X1.later hb7
  replace R2 := R2.later hb7
  replace R3 := R3.later hb7
  replace hB := below_step hB hb7
  clear hb7
  obtain ⟨x00, x01, x02, x03, x04, x05⟩ := X0.six
  obtain ⟨x10, x11, x12, x13, x14, x15⟩ := X1.six
  have s1 := str_at R2 hl
  have s2 := str_at R3 hl
  go_wp2_with fail
  refine (ruMay_any a n i p k t _).mono ?_
  rintro e w8 ⟨rfl, hb8⟩
  clear x00 x01 x02 x03 x04 x05
  clear x10 x11 x12 x13 x14 x15
  replace X0 := X0.later hb8
  replace X1 := X1.later hb8
  replace R2 := R2.later hb8
  replace R3 := R3.later hb8
  replace hB := below_step hB hb8
  clear hb8
  obtain ⟨x00, x01, x02, x03, x04, x05⟩ := X0.six
  obtain ⟨x10, x11, x12, x13, x14, x15⟩ := X1.six
  go_wp2_with fail
  refine (ruFits_any a n i p k t x d _).mono ?_
  rintro e w9 ⟨rfl, hb9⟩
  clear x00 x01 x02 x03 x04 x05
  clear x10 x11 x12 x13 x14 x15
  replace X0 := X0.later hb9
  replace X1 := X1.later hb9
  replace R2 := R2.later hb9
  replace R3 := R3.later hb9
  replace hB := below_step hB hb9
  clear hb9
  obtain ⟨x00, x01, x02, x03, x04, x05⟩ := X0.six
  obtain ⟨x10, x11, x12, x13, x14, x15⟩ := X1.six
  go_wp2_with fail
  refine (ruAhead_any a n i p k t b m j q l u _).mono ?_
  rintro e w10 ⟨rfl, hb10⟩
  clear x00 x01 x02 x03 x04 x05
  clear x10 x11 x12 x13 x14 x15
  replace X0 := X0.later hb10
  replace X1 := X1.later hb10
  replace R2 := R2.later hb10
  replace R3 := R3.later hb10
  replace hB := below_step hB hb10
  clear hb10
  obtain ⟨x00, x01, x02, x03, x04, x05⟩ := X0.six
  obtain ⟨x10, x11, x12, x13, x14, x15⟩ := X1.six
  go_wp2_with fail
  refine (ruAlike_any a n i p k t b m j q l u _).mono ?_
  rintro e w11 ⟨rfl, hb11⟩
  clear x00 x01 x02 x03 x04 x05
  clear x10 x11 x12 x13 x14 x15
  replace X0 := X0.later hb11
  replace X1 := X1.later hb11
  replace R2 := R2.later hb11
  replace R3 := R3.later hb11
  replace hB := below_step hB hb11
  clear hb11
  obtain ⟨x00, x01, x02, x03, x04, x05⟩ := X0.six
  obtain ⟨x10, x11, x12, x13, x14, x15⟩ := X1.six
  go_wp2_with fail
  go_ret
  exact ⟨rfl, hB⟩
set_option maxHeartbeats 2000000 in
theorem tells_bad (a n i p k t b m j q l u x d : Int) (w : World) (hk : okR a n i p k t = false) :
    Calls Try.prog 3 #[.agg #[.int .i64 a, .int .i64 n, .int .i64 i, .int .i64 p, .int .i64 k, .int .i64 t], .agg #[.int .i64 b, .int .i64 m, .int .i64 j, .int .i64 q, .int .i64 l, .int .i64 u], .int .i64 x, .int .i64 d] w fun e w' => e = .returned (.bool true) ∧ Below w.heap.size w w' := by
  have hn0 := below_new w (.cells #[.int .i64 a, .int .i64 n, .int .i64 i, .int .i64 p, .int .i64 k, .int .i64 t] 27)
  have X0 := Lies.new w [a, n, i, p, k, t] 27 (B := w.heap.size) rfl
  have hB := hn0
  have hn1 := below_new (w.alloc (.cells #[.int .i64 a, .int .i64 n, .int .i64 i, .int .i64 p, .int .i64 k, .int .i64 t] 27)) (.cells #[.int .i64 b, .int .i64 m, .int .i64 j, .int .i64 q, .int .i64 l, .int .i64 u] 27)
  have X1 := Lies.new (w.alloc (.cells #[.int .i64 a, .int .i64 n, .int .i64 i, .int .i64 p, .int .i64 k, .int .i64 t] 27)) [b, m, j, q, l, u] 27 (B := w.heap.size + 1) (by simp)
  replace X0 := X0.later hn1
  replace hB := below_step hB hn1
  clear hn0 hn1
  obtain ⟨x00, x01, x02, x03, x04, x05⟩ := X0.six
  obtain ⟨x10, x11, x12, x13, x14, x15⟩ := X1.six
  go_enter Try.func3, Try.ntmps3
  go_wp2_with fail
  refine (awake_any _).mono ?_
  rintro e w1 ⟨rfl, hb1⟩
  clear x00 x01 x02 x03 x04 x05
  clear x10 x11 x12 x13 x14 x15
  replace X0 := X0.later hb1
  replace X1 := X1.later hb1
  replace hB := below_step hB hb1
  clear hb1
  obtain ⟨x00, x01, x02, x03, x04, x05⟩ := X0.six
  obtain ⟨x10, x11, x12, x13, x14, x15⟩ := X1.six
  go_wp2_with fail
  refine (ruPut_bad hk _).mono ?_
  rintro e w2 ⟨rfl, hb2⟩
  clear x00 x01 x02 x03 x04 x05
  clear x10 x11 x12 x13 x14 x15
  replace X0 := X0.later hb2
  replace X1 := X1.later hb2
  replace hB := below_step hB hb2
  clear hb2
  obtain ⟨x00, x01, x02, x03, x04, x05⟩ := X0.six
  obtain ⟨x10, x11, x12, x13, x14, x15⟩ := X1.six
  go_wp2_with fail
  refine (rrPut_bad hk _).mono ?_
  rintro e w3 ⟨rfl, hb3⟩
  clear x00 x01 x02 x03 x04 x05
  clear x10 x11 x12 x13 x14 x15
  replace X0 := X0.later hb3
  replace X1 := X1.later hb3
  replace hB := below_step hB hb3
  clear hb3
  obtain ⟨x00, x01, x02, x03, x04, x05⟩ := X0.six
  obtain ⟨x10, x11, x12, x13, x14, x15⟩ := X1.six
  go_wp2_with fail
  refine (rrMay_any a n i p k t _).mono ?_
  rintro e w4 ⟨rfl, hb4⟩
  clear x00 x01 x02 x03 x04 x05
  clear x10 x11 x12 x13 x14 x15
  replace X0 := X0.later hb4
  replace X1 := X1.later hb4
  replace hB := below_step hB hb4
  clear hb4
  obtain ⟨x00, x01, x02, x03, x04, x05⟩ := X0.six
  obtain ⟨x10, x11, x12, x13, x14, x15⟩ := X1.six
  go_wp2_with fail
  refine (rrFits_any a n i p k t x d _).mono ?_
  rintro e w5 ⟨rfl, hb5⟩
  clear x00 x01 x02 x03 x04 x05
  clear x10 x11 x12 x13 x14 x15
  replace X0 := X0.later hb5
  replace X1 := X1.later hb5
  replace hB := below_step hB hb5
  clear hb5
  obtain ⟨x00, x01, x02, x03, x04, x05⟩ := X0.six
  obtain ⟨x10, x11, x12, x13, x14, x15⟩ := X1.six
  go_wp2_with fail
  refine (rrAhead_any a n i p k t b m j q l u _).mono ?_
  rintro e w6 ⟨rfl, hb6⟩
  clear x00 x01 x02 x03 x04 x05
  clear x10 x11 x12 x13 x14 x15
  replace X0 := X0.later hb6
  replace X1 := X1.later hb6
  replace hB := below_step hB hb6
  clear hb6
  obtain ⟨x00, x01, x02, x03, x04, x05⟩ := X0.six
  obtain ⟨x10, x11, x12, x13, x14, x15⟩ := X1.six
  go_wp2_with fail
  refine (rrAlike_any a n i p k t b m j q l u _).mono ?_
  rintro e w7 ⟨rfl, hb7⟩
  clear x00 x01 x02 x03 x04 x05
  clear x10 x11 x12 x13 x14 x15
  replace X0 := X0.later hb7
  replace X1 := X1.later hb7
  replace hB := below_step hB hb7
  clear hb7
  obtain ⟨x00, x01, x02, x03, x04, x05⟩ := X0.six
  obtain ⟨x10, x11, x12, x13, x14, x15⟩ := X1.six
  have s1 := str_at (Reads.none .u8 w7) (n := 0) rfl
  go_wp2_with fail
  refine (ruMay_any a n i p k t _).mono ?_
  rintro e w8 ⟨rfl, hb8⟩
  clear x00 x01 x02 x03 x04 x05
  clear x10 x11 x12 x13 x14 x15
  replace X0 := X0.later hb8
  replace X1 := X1.later hb8
  replace hB := below_step hB hb8
  clear hb8
  obtain ⟨x00, x01, x02, x03, x04, x05⟩ := X0.six
  obtain ⟨x10, x11, x12, x13, x14, x15⟩ := X1.six
  go_wp2_with fail
  refine (ruFits_any a n i p k t x d _).mono ?_
  rintro e w9 ⟨rfl, hb9⟩
  clear x00 x01 x02 x03 x04 x05
  clear x10 x11 x12 x13 x14 x15
  replace X0 := X0.later hb9
  replace X1 := X1.later hb9
  replace hB := below_step hB hb9
  clear hb9
  obtain ⟨x00, x01, x02, x03, x04, x05⟩ := X0.six
  obtain ⟨x10, x11, x12, x13, x14, x15⟩ := X1.six
  go_wp2_with fail
  refine (ruAhead_any a n i p k t b m j q l u _).mono ?_
  rintro e w10 ⟨rfl, hb10⟩
  clear x00 x01 x02 x03 x04 x05
  clear x10 x11 x12 x13 x14 x15
  replace X0 := X0.later hb10
  replace X1 := X1.later hb10
  replace hB := below_step hB hb10
  clear hb10
  obtain ⟨x00, x01, x02, x03, x04, x05⟩ := X0.six
  obtain ⟨x10, x11, x12, x13, x14, x15⟩ := X1.six
  go_wp2_with fail
  refine (ruAlike_any a n i p k t b m j q l u _).mono ?_
  rintro e w11 ⟨rfl, hb11⟩
  clear x00 x01 x02 x03 x04 x05
  clear x10 x11 x12 x13 x14 x15
  replace X0 := X0.later hb11
  replace X1 := X1.later hb11
  replace hB := below_step hB hb11
  clear hb11
  obtain ⟨x00, x01, x02, x03, x04, x05⟩ := X0.six
  obtain ⟨x10, x11, x12, x13, x14, x15⟩ := X1.six
  go_wp2_with fail
  go_ret
  exact ⟨rfl, hB⟩
theorem walk (a n i p k t b m j q l u x d : Int) (wa : (Lit.int .i64 a).wf = true) (wn : (Lit.int .i64 n).wf = true) (wi : (Lit.int .i64 i).wf = true) (wp : (Lit.int .i64 p).wf = true) (wk : (Lit.int .i64 k).wf = true) (wt : (Lit.int .i64 t).wf = true) (wb : (Lit.int .i64 b).wf = true) (wm : (Lit.int .i64 m).wf = true) (wj : (Lit.int .i64 j).wf = true) (wq : (Lit.int .i64 q).wf = true) (wl : (Lit.int .i64 l).wf = true) (wu : (Lit.int .i64 u).wf = true) (wx : (Lit.int .i64 x).wf = true) (wd : (Lit.int .i64 d).wf = true) (w : World) :
    Calls Try.prog 3 #[.agg #[.int .i64 a, .int .i64 n, .int .i64 i, .int .i64 p, .int .i64 k, .int .i64 t], .agg #[.int .i64 b, .int .i64 m, .int .i64 j, .int .i64 q, .int .i64 l, .int .i64 u], .int .i64 x, .int .i64 d] w fun e w' => e = .returned (.bool true) ∧ Below w.heap.size w w' := by
  cases hk : okR a n i p k t
  · exact tells_bad a n i p k t b m j q l u x d w hk
  · exact tells_ok a n i p k t b m j q l u x d w hk

theorem own : ownKnob Try.prog.godebug = none := by kernel_rfl
theorem laidOut : laidOutB Try.prog = true := by kernel_rfl
set_option maxRecDepth 100000 in
theorem lifted (os : Os) (started : os.Started) (H : Type) (enc : TypeId × Value → H) :
    ReturnsInHanded {} Try.checked os 3 .any (Rows.ruleTellsSpec.pre6 enc Try.prog Try.f3 Rows.ruleTellsRow.domain false) (Rows.ruleTellsSpec.post enc Try.prog Try.f3 false true false false) := by
  refine returnsInHanded_of_change (C := Try.checked) own started (by kernel_rfl) Try.func3
    (ChangeSpec.witness6 (enc := enc) (C := Try.checked) false ⟨#[], #[.agg #[.int .i64 0, .int .i64 0, .int .i64 0, .int .i64 0, .int .i64 0, .int .i64 0], .agg #[.int .i64 0, .int .i64 0, .int .i64 0, .int .i64 0, .int .i64 0, .int .i64 0], .int .i64 0, .int .i64 0], []⟩ 8 (by kernel_rfl) (by kernel_rfl) (by kernel_rfl) (by kernel_rfl)) ?_
  intro W base args ds gs before hval0 hW hcnd _
  have hval : ∀ (j : Nat) t v, Try.f3.params[j]? = some t → args[j]? = some v → Value.okWide Try.prog W .any base t v := hval0
  have hW' := hW
  obtain ⟨p, q, hA0, hV, rfl, hfz, hnd⟩ := hW
  have hA : DataW.TrodAll enc Try.prog W 0 (fun _ => true) true Try.f3.params.toList args.toList ds p := hA0
  rw [Try.params3] at hA hval
  obtain ⟨v0, vs0, d0, ds0, p0, q0, hargs, rfl, rfl, h0, r0⟩ := trodAll_cons hA
  obtain ⟨v1, vs1, d1, ds1, p1, q1, rfl, rfl, rfl, h1, r1⟩ := trodAll_cons r0
  obtain ⟨v2, vs2, d2, ds2, p2, q2, rfl, rfl, rfl, h2, r2⟩ := trodAll_cons r1
  obtain ⟨v3, vs3, d3, ds3, p3, q3, rfl, rfl, rfl, h3, r3⟩ := trodAll_cons r2
  obtain ⟨rfl, rfl, rfl⟩ := trodAll_nil r3
  obtain rfl : args = #[v0, v1, v2, v3] := by cases args; simp_all
  obtain ⟨rfl, rfl⟩ := trodVars_none hV
  have k0 := h0
  have lt0 : ∀ x ∈ p0, x.block < W.heap.size := by obtain ⟨m, hm⟩ := k0; exact DataW.trod_lt m _ _ _ hm
  have k1 := h1
  have lt1 : ∀ x ∈ p1, x.block < W.heap.size := by obtain ⟨m, hm⟩ := k1; exact DataW.trod_lt m _ _ _ hm
  have k2 := h2
  have lt2 : ∀ x ∈ p2, x.block < W.heap.size := by obtain ⟨m, hm⟩ := k2; exact DataW.trod_lt m _ _ _ hm
  have k3 := h3
  have lt3 : ∀ x ∈ p3, x.block < W.heap.size := by obtain ⟨m, hm⟩ := k3; exact DataW.trod_lt m _ _ _ hm
  obtain ⟨a0, b0, c0, d0, e0, f0, rfl, w0a, w0b, w0c, w0d, w0e, w0f⟩ := open_rule (hval 0 27 v0 rfl rfl) h0
  obtain ⟨a1, b1, c1, d1, e1, f1, rfl, w1a, w1b, w1c, w1d, w1e, w1f⟩ := open_rule (hval 1 27 v1 rfl rfl) h1
  obtain ⟨a2, rfl, rfl, hp2, w2⟩ := open_int Try.underlying3 (hval 2 3 v2 rfl rfl) h2
  obtain ⟨a3, rfl, rfl, hp3, w3⟩ := open_int Try.underlying3 (hval 3 3 v3 rfl rfl) h3
  clear hA0 hval0
  refine (walk a0 b0 c0 d0 e0 f0 a1 b1 c1 d1 e1 f1 a2 a3 w0a w0b w0c w0d w0e w0f w1a w1b w1c w1d w1e w1f w2 w3 W ).mono fun e W' ⟨he, bel⟩ => ?_
  subst he
  exact ⟨_, rfl, _, _, _, [], _, [], hW', trodAll_mk1 (shut_bool Try.underlying4 _), (trodAll_cons_mk (Below.trod laidOut (by kernel_rfl) (of_decide_eq_true (by kernel_rfl)) k0 bel lt0) (trodAll_cons_mk (Below.trod laidOut (by kernel_rfl) (of_decide_eq_true (by kernel_rfl)) k1 bel lt1) (trodAll_cons_mk (Below.trod laidOut (by kernel_rfl) (of_decide_eq_true (by kernel_rfl)) k2 bel lt2) (trodAll_cons_mk (Below.trod laidOut (by kernel_rfl) (of_decide_eq_true (by kernel_rfl)) k3 bel lt3) trodAll_mk0)))), rfl, bel.frame _, fun h => by cases h⟩

theorem over : Rows.ruleTellsRow.holds Try.pinned (OpenSpec.ofChange Rows.ruleTellsSpec) :=
  OpenClaim.holds_of_wide 3 Try.f3 rfl rfl rfl rfl rfl rfl rfl ⟨rfl, rfl, rfl, rfl, rfl⟩ rfl rfl rfl rfl rfl (by kernel_rfl) Try.func3 (by kernel_rfl)
    (of_decide_eq_true (by kernel_rfl)) (by unfold Func.isWrapper; first | (rw [if_pos (by decide +kernel)]; kernel_rfl) | (rw [if_neg (by decide +kernel)]; exact ⟨rfl, rfl⟩))
    (fun os started H enc _ => lifted os started H enc)
end Go.Proofs.Ytkpgifpnmccdcaa.ruleTells
namespace Go.Proofs.Ytkpgifpnmccdcaa
theorem ruleTells_holds : Rows.RuleTellsSaid := ruleTells.over
#print axioms ruleTells_holds
end Go.Proofs.Ytkpgifpnmccdcaa
