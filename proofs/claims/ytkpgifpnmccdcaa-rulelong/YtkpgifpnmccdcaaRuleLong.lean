/- Proved: for all rules a and b the call RuleLong(a, b) returns true: a rule of a longer prefix is ahead of one of a shorter one; of the same length the greater priority is. No condition. -/
import Derived.Test.YtkpgifpnmccdcaaRuleAhead
import Derived.Test.YtkpgifpnmccdcaaRulePut
import Derived.Test.YtkpgifpnmccdcaaRuleOpen
import Derived.Lib.SmallJoins
namespace Go.Proofs.Ytkpgifpnmccdcaa.ruleLong
open Go.ChangeShapes Go.WideShapes Go.ChangeAt Go.RowKit R
set_option linter.unusedVariables false


set_option maxHeartbeats 2000000 in
theorem long00 (a n i p k t b m j q l u : Int) (w : World) (h1 : n ≤ m) (h2 : p ≤ q) :
    Calls Try.prog 8 #[.agg #[.int .i64 a, .int .i64 n, .int .i64 i, .int .i64 p, .int .i64 k, .int .i64 t], .agg #[.int .i64 b, .int .i64 m, .int .i64 j, .int .i64 q, .int .i64 l, .int .i64 u]] w fun e w' => e = .returned (.bool true) ∧ Below w.heap.size w w' := by
  have cAB := fun w => ruAhead_any a n i p k t b m j q l u w
  have cBA := fun w => ruAhead_any b m j q l u a n i p k t w
  have cAC := fun w => ruAhead_any a n i p k t a n j q l u w
  have hn0 := below_new w (.cells #[.int .i64 a, .int .i64 n, .int .i64 i, .int .i64 p, .int .i64 k, .int .i64 t] 27)
  have X0 := Lies.new w [a, n, i, p, k, t] 27 (B := w.heap.size) rfl
  have hB := hn0
  have hn1 := below_new (w.alloc (.cells #[.int .i64 a, .int .i64 n, .int .i64 i, .int .i64 p, .int .i64 k, .int .i64 t] 27)) (.cells #[.int .i64 b, .int .i64 m, .int .i64 j, .int .i64 q, .int .i64 l, .int .i64 u] 27)
  have X1 := Lies.new (w.alloc (.cells #[.int .i64 a, .int .i64 n, .int .i64 i, .int .i64 p, .int .i64 k, .int .i64 t] 27)) [b, m, j, q, l, u] 27 (B := w.heap.size + 1) (by simp)
  replace X0 := X0.later hn1
  replace hB := below_step hB hn1
  clear hn0 hn1
  obtain ⟨x00, x01, x02, x03, x04, x05⟩ := X0.six
  obtain ⟨x10, x11, x12, x13, x14, x15⟩ := X1.six
  go_enter Try.func8, Try.ntmps8
  go_wp2_with fail
  refine (awake_any _).mono ?_
  rintro e w1 ⟨rfl, hb1⟩
  clear x00 x01 x02 x03 x04 x05
  clear x10 x11 x12 x13 x14 x15
  replace X0 := X0.later hb1
  replace X1 := X1.later hb1
  replace hB := below_step hB hb1
  clear hb1
  obtain ⟨x00, x01, x02, x03, x04, x05⟩ := X0.six
  obtain ⟨x10, x11, x12, x13, x14, x15⟩ := X1.six
  have hq0 := below_new w1 (.cells #[.int .i64 b, .int .i64 m, .int .i64 j, .int .i64 q, .int .i64 l, .int .i64 u] 27)
  obtain ⟨x0q0, x0q1, x0q2, x0q3, x0q4, x0q5⟩ := (X0.later hq0).six
  obtain ⟨x1q0, x1q1, x1q2, x1q3, x1q4, x1q5⟩ := (X1.later hq0).six
  clear hq0
  have hv0 := below_new w1 (.cells #[.int .i64 a, .int .i64 n, .int .i64 j, .int .i64 q, .int .i64 l, .int .i64 u] 27)
  replace X0 := X0.later hv0
  replace X1 := X1.later hv0
  replace hB := below_step hB hv0
  clear hv0
  have V0 := Lies.new w1 [a, n, j, q, l, u] 27 (B := w1.heap.size) rfl
  obtain ⟨x00, x01, x02, x03, x04, x05⟩ := X0.six
  obtain ⟨x10, x11, x12, x13, x14, x15⟩ := X1.six
  obtain ⟨v00, v01, v02, v03, v04, v05⟩ := V0.six
  go_wp2_with fail
  go_ret
  exact ⟨rfl, hB⟩
set_option maxHeartbeats 2000000 in
theorem long01 (a n i p k t b m j q l u : Int) (w : World) (h1 : n ≤ m) (h2 : q < p) :
    Calls Try.prog 8 #[.agg #[.int .i64 a, .int .i64 n, .int .i64 i, .int .i64 p, .int .i64 k, .int .i64 t], .agg #[.int .i64 b, .int .i64 m, .int .i64 j, .int .i64 q, .int .i64 l, .int .i64 u]] w fun e w' => e = .returned (.bool true) ∧ Below w.heap.size w w' := by
  have cAB := fun w => ruAhead_any a n i p k t b m j q l u w
  have cBA := fun w => ruAhead_any b m j q l u a n i p k t w
  have cAC := fun w => ruAhead_any a n i p k t a n j q l u w
  rw [show ahB n p i n q j = true by unfold ahB; rw [if_pos rfl, if_neg (by omega)]; simpa using h2] at cAC
  have hn0 := below_new w (.cells #[.int .i64 a, .int .i64 n, .int .i64 i, .int .i64 p, .int .i64 k, .int .i64 t] 27)
  have X0 := Lies.new w [a, n, i, p, k, t] 27 (B := w.heap.size) rfl
  have hB := hn0
  have hn1 := below_new (w.alloc (.cells #[.int .i64 a, .int .i64 n, .int .i64 i, .int .i64 p, .int .i64 k, .int .i64 t] 27)) (.cells #[.int .i64 b, .int .i64 m, .int .i64 j, .int .i64 q, .int .i64 l, .int .i64 u] 27)
  have X1 := Lies.new (w.alloc (.cells #[.int .i64 a, .int .i64 n, .int .i64 i, .int .i64 p, .int .i64 k, .int .i64 t] 27)) [b, m, j, q, l, u] 27 (B := w.heap.size + 1) (by simp)
  replace X0 := X0.later hn1
  replace hB := below_step hB hn1
  clear hn0 hn1
  obtain ⟨x00, x01, x02, x03, x04, x05⟩ := X0.six
  obtain ⟨x10, x11, x12, x13, x14, x15⟩ := X1.six
  go_enter Try.func8, Try.ntmps8
  go_wp2_with fail
  refine (awake_any _).mono ?_
  rintro e w1 ⟨rfl, hb1⟩
  clear x00 x01 x02 x03 x04 x05
  clear x10 x11 x12 x13 x14 x15
  replace X0 := X0.later hb1
  replace X1 := X1.later hb1
  replace hB := below_step hB hb1
  clear hb1
  obtain ⟨x00, x01, x02, x03, x04, x05⟩ := X0.six
  obtain ⟨x10, x11, x12, x13, x14, x15⟩ := X1.six
  have hq0 := below_new w1 (.cells #[.int .i64 b, .int .i64 m, .int .i64 j, .int .i64 q, .int .i64 l, .int .i64 u] 27)
  obtain ⟨x0q0, x0q1, x0q2, x0q3, x0q4, x0q5⟩ := (X0.later hq0).six
  obtain ⟨x1q0, x1q1, x1q2, x1q3, x1q4, x1q5⟩ := (X1.later hq0).six
  clear hq0
  have hv0 := below_new w1 (.cells #[.int .i64 a, .int .i64 n, .int .i64 j, .int .i64 q, .int .i64 l, .int .i64 u] 27)
  replace X0 := X0.later hv0
  replace X1 := X1.later hv0
  replace hB := below_step hB hv0
  clear hv0
  have V0 := Lies.new w1 [a, n, j, q, l, u] 27 (B := w1.heap.size) rfl
  obtain ⟨x00, x01, x02, x03, x04, x05⟩ := X0.six
  obtain ⟨x10, x11, x12, x13, x14, x15⟩ := X1.six
  obtain ⟨v00, v01, v02, v03, v04, v05⟩ := V0.six
  go_wp2_with fail
  refine (cAC _).mono ?_
  rintro e w2 ⟨rfl, hb2⟩
  clear x00 x01 x02 x03 x04 x05
  clear x10 x11 x12 x13 x14 x15
  clear v00 v01 v02 v03 v04 v05
  replace X0 := X0.later hb2
  replace X1 := X1.later hb2
  replace V0 := V0.later hb2
  replace hB := below_step hB hb2
  clear hb2
  obtain ⟨x00, x01, x02, x03, x04, x05⟩ := X0.six
  obtain ⟨x10, x11, x12, x13, x14, x15⟩ := X1.six
  obtain ⟨v00, v01, v02, v03, v04, v05⟩ := V0.six
  go_wp2_with fail
  go_ret
  exact ⟨rfl, hB⟩
set_option maxHeartbeats 2000000 in
theorem long10 (a n i p k t b m j q l u : Int) (w : World) (h1 : m < n) (h2 : p ≤ q) :
    Calls Try.prog 8 #[.agg #[.int .i64 a, .int .i64 n, .int .i64 i, .int .i64 p, .int .i64 k, .int .i64 t], .agg #[.int .i64 b, .int .i64 m, .int .i64 j, .int .i64 q, .int .i64 l, .int .i64 u]] w fun e w' => e = .returned (.bool true) ∧ Below w.heap.size w w' := by
  have cAB := fun w => ruAhead_any a n i p k t b m j q l u w
  have cBA := fun w => ruAhead_any b m j q l u a n i p k t w
  have cAC := fun w => ruAhead_any a n i p k t a n j q l u w
  rw [show ahB n p i m q j = true by unfold ahB; rw [if_neg (by omega)]; simpa using h1] at cAB
  rw [show ahB m q j n p i = false by unfold ahB; rw [if_neg (by omega)]; simp; omega] at cBA
  have hn0 := below_new w (.cells #[.int .i64 a, .int .i64 n, .int .i64 i, .int .i64 p, .int .i64 k, .int .i64 t] 27)
  have X0 := Lies.new w [a, n, i, p, k, t] 27 (B := w.heap.size) rfl
  have hB := hn0
  have hn1 := below_new (w.alloc (.cells #[.int .i64 a, .int .i64 n, .int .i64 i, .int .i64 p, .int .i64 k, .int .i64 t] 27)) (.cells #[.int .i64 b, .int .i64 m, .int .i64 j, .int .i64 q, .int .i64 l, .int .i64 u] 27)
  have X1 := Lies.new (w.alloc (.cells #[.int .i64 a, .int .i64 n, .int .i64 i, .int .i64 p, .int .i64 k, .int .i64 t] 27)) [b, m, j, q, l, u] 27 (B := w.heap.size + 1) (by simp)
  replace X0 := X0.later hn1
  replace hB := below_step hB hn1
  clear hn0 hn1
  obtain ⟨x00, x01, x02, x03, x04, x05⟩ := X0.six
  obtain ⟨x10, x11, x12, x13, x14, x15⟩ := X1.six
  go_enter Try.func8, Try.ntmps8
  go_wp2_with fail
  refine (awake_any _).mono ?_
  rintro e w1 ⟨rfl, hb1⟩
  clear x00 x01 x02 x03 x04 x05
  clear x10 x11 x12 x13 x14 x15
  replace X0 := X0.later hb1
  replace X1 := X1.later hb1
  replace hB := below_step hB hb1
  clear hb1
  obtain ⟨x00, x01, x02, x03, x04, x05⟩ := X0.six
  obtain ⟨x10, x11, x12, x13, x14, x15⟩ := X1.six
  have hq0 := below_new w1 (.cells #[.int .i64 b, .int .i64 m, .int .i64 j, .int .i64 q, .int .i64 l, .int .i64 u] 27)
  obtain ⟨x0q0, x0q1, x0q2, x0q3, x0q4, x0q5⟩ := (X0.later hq0).six
  obtain ⟨x1q0, x1q1, x1q2, x1q3, x1q4, x1q5⟩ := (X1.later hq0).six
  clear hq0
  have hv0 := below_new w1 (.cells #[.int .i64 a, .int .i64 n, .int .i64 j, .int .i64 q, .int .i64 l, .int .i64 u] 27)
  replace X0 := X0.later hv0
  replace X1 := X1.later hv0
  replace hB := below_step hB hv0
  clear hv0
  have V0 := Lies.new w1 [a, n, j, q, l, u] 27 (B := w1.heap.size) rfl
  obtain ⟨x00, x01, x02, x03, x04, x05⟩ := X0.six
  obtain ⟨x10, x11, x12, x13, x14, x15⟩ := X1.six
  obtain ⟨v00, v01, v02, v03, v04, v05⟩ := V0.six
  go_wp2_with fail
  refine (cAB _).mono ?_
  rintro e w2 ⟨rfl, hb2⟩
  clear x00 x01 x02 x03 x04 x05
  clear x10 x11 x12 x13 x14 x15
  clear v00 v01 v02 v03 v04 v05
  replace X0 := X0.later hb2
  replace X1 := X1.later hb2
  replace V0 := V0.later hb2
  replace hB := below_step hB hb2
  clear hb2
  obtain ⟨x00, x01, x02, x03, x04, x05⟩ := X0.six
  obtain ⟨x10, x11, x12, x13, x14, x15⟩ := X1.six
  obtain ⟨v00, v01, v02, v03, v04, v05⟩ := V0.six
  go_wp2_with fail
  refine (cBA _).mono ?_
  rintro e w3 ⟨rfl, hb3⟩
  clear x00 x01 x02 x03 x04 x05
  clear x10 x11 x12 x13 x14 x15
  clear v00 v01 v02 v03 v04 v05
  replace X0 := X0.later hb3
  replace X1 := X1.later hb3
  replace V0 := V0.later hb3
  replace hB := below_step hB hb3
  clear hb3
  obtain ⟨x00, x01, x02, x03, x04, x05⟩ := X0.six
  obtain ⟨x10, x11, x12, x13, x14, x15⟩ := X1.six
  obtain ⟨v00, v01, v02, v03, v04, v05⟩ := V0.six
  go_wp2_with fail
  go_ret
  exact ⟨rfl, hB⟩
set_option maxHeartbeats 2000000 in
theorem long11 (a n i p k t b m j q l u : Int) (w : World) (h1 : m < n) (h2 : q < p) :
    Calls Try.prog 8 #[.agg #[.int .i64 a, .int .i64 n, .int .i64 i, .int .i64 p, .int .i64 k, .int .i64 t], .agg #[.int .i64 b, .int .i64 m, .int .i64 j, .int .i64 q, .int .i64 l, .int .i64 u]] w fun e w' => e = .returned (.bool true) ∧ Below w.heap.size w w' := by
  have cAB := fun w => ruAhead_any a n i p k t b m j q l u w
  have cBA := fun w => ruAhead_any b m j q l u a n i p k t w
  have cAC := fun w => ruAhead_any a n i p k t a n j q l u w
  rw [show ahB n p i m q j = true by unfold ahB; rw [if_neg (by omega)]; simpa using h1] at cAB
  rw [show ahB m q j n p i = false by unfold ahB; rw [if_neg (by omega)]; simp; omega] at cBA
  rw [show ahB n p i n q j = true by unfold ahB; rw [if_pos rfl, if_neg (by omega)]; simpa using h2] at cAC
  have hn0 := below_new w (.cells #[.int .i64 a, .int .i64 n, .int .i64 i, .int .i64 p, .int .i64 k, .int .i64 t] 27)
  have X0 := Lies.new w [a, n, i, p, k, t] 27 (B := w.heap.size) rfl
  have hB := hn0
  have hn1 := below_new (w.alloc (.cells #[.int .i64 a, .int .i64 n, .int .i64 i, .int .i64 p, .int .i64 k, .int .i64 t] 27)) (.cells #[.int .i64 b, .int .i64 m, .int .i64 j, .int .i64 q, .int .i64 l, .int .i64 u] 27)
  have X1 := Lies.new (w.alloc (.cells #[.int .i64 a, .int .i64 n, .int .i64 i, .int .i64 p, .int .i64 k, .int .i64 t] 27)) [b, m, j, q, l, u] 27 (B := w.heap.size + 1) (by simp)
  replace X0 := X0.later hn1
  replace hB := below_step hB hn1
  clear hn0 hn1
  obtain ⟨x00, x01, x02, x03, x04, x05⟩ := X0.six
  obtain ⟨x10, x11, x12, x13, x14, x15⟩ := X1.six
  go_enter Try.func8, Try.ntmps8
  go_wp2_with fail
  refine (awake_any _).mono ?_
  rintro e w1 ⟨rfl, hb1⟩
  clear x00 x01 x02 x03 x04 x05
  clear x10 x11 x12 x13 x14 x15
  replace X0 := X0.later hb1
  replace X1 := X1.later hb1
  replace hB := below_step hB hb1
  clear hb1
  obtain ⟨x00, x01, x02, x03, x04, x05⟩ := X0.six
  obtain ⟨x10, x11, x12, x13, x14, x15⟩ := X1.six
  have hq0 := below_new w1 (.cells #[.int .i64 b, .int .i64 m, .int .i64 j, .int .i64 q, .int .i64 l, .int .i64 u] 27)
  obtain ⟨x0q0, x0q1, x0q2, x0q3, x0q4, x0q5⟩ := (X0.later hq0).six
  obtain ⟨x1q0, x1q1, x1q2, x1q3, x1q4, x1q5⟩ := (X1.later hq0).six
  clear hq0
  have hv0 := below_new w1 (.cells #[.int .i64 a, .int .i64 n, .int .i64 j, .int .i64 q, .int .i64 l, .int .i64 u] 27)
  replace X0 := X0.later hv0
  replace X1 := X1.later hv0
  replace hB := below_step hB hv0
  clear hv0
  have V0 := Lies.new w1 [a, n, j, q, l, u] 27 (B := w1.heap.size) rfl
  obtain ⟨x00, x01, x02, x03, x04, x05⟩ := X0.six
  obtain ⟨x10, x11, x12, x13, x14, x15⟩ := X1.six
  obtain ⟨v00, v01, v02, v03, v04, v05⟩ := V0.six
  go_wp2_with fail
  refine (cAB _).mono ?_
  rintro e w2 ⟨rfl, hb2⟩
  clear x00 x01 x02 x03 x04 x05
  clear x10 x11 x12 x13 x14 x15
  clear v00 v01 v02 v03 v04 v05
  replace X0 := X0.later hb2
  replace X1 := X1.later hb2
  replace V0 := V0.later hb2
  replace hB := below_step hB hb2
  clear hb2
  obtain ⟨x00, x01, x02, x03, x04, x05⟩ := X0.six
  obtain ⟨x10, x11, x12, x13, x14, x15⟩ := X1.six
  obtain ⟨v00, v01, v02, v03, v04, v05⟩ := V0.six
  go_wp2_with fail
  refine (cBA _).mono ?_
  rintro e w3 ⟨rfl, hb3⟩
  clear x00 x01 x02 x03 x04 x05
  clear x10 x11 x12 x13 x14 x15
  clear v00 v01 v02 v03 v04 v05
  replace X0 := X0.later hb3
  replace X1 := X1.later hb3
  replace V0 := V0.later hb3
  replace hB := below_step hB hb3
  clear hb3
  obtain ⟨x00, x01, x02, x03, x04, x05⟩ := X0.six
  obtain ⟨x10, x11, x12, x13, x14, x15⟩ := X1.six
  obtain ⟨v00, v01, v02, v03, v04, v05⟩ := V0.six
  go_wp2_with fail
  refine (cAC _).mono ?_
  rintro e w4 ⟨rfl, hb4⟩
  clear x00 x01 x02 x03 x04 x05
  clear x10 x11 x12 x13 x14 x15
  clear v00 v01 v02 v03 v04 v05
  replace X0 := X0.later hb4
  replace X1 := X1.later hb4
  replace V0 := V0.later hb4
  replace hB := below_step hB hb4
  clear hb4
  obtain ⟨x00, x01, x02, x03, x04, x05⟩ := X0.six
  obtain ⟨x10, x11, x12, x13, x14, x15⟩ := X1.six
  obtain ⟨v00, v01, v02, v03, v04, v05⟩ := V0.six
  go_wp2_with fail
  go_ret
  exact ⟨rfl, hB⟩
theorem walk (a n i p k t b m j q l u : Int) (wa : (Lit.int .i64 a).wf = true) (wn : (Lit.int .i64 n).wf = true) (wi : (Lit.int .i64 i).wf = true) (wp : (Lit.int .i64 p).wf = true) (wk : (Lit.int .i64 k).wf = true) (wt : (Lit.int .i64 t).wf = true) (wb : (Lit.int .i64 b).wf = true) (wm : (Lit.int .i64 m).wf = true) (wj : (Lit.int .i64 j).wf = true) (wq : (Lit.int .i64 q).wf = true) (wl : (Lit.int .i64 l).wf = true) (wu : (Lit.int .i64 u).wf = true) (w : World) :
    Calls Try.prog 8 #[.agg #[.int .i64 a, .int .i64 n, .int .i64 i, .int .i64 p, .int .i64 k, .int .i64 t], .agg #[.int .i64 b, .int .i64 m, .int .i64 j, .int .i64 q, .int .i64 l, .int .i64 u]] w fun e w' => e = .returned (.bool true) ∧ Below w.heap.size w w' := by
  by_cases h1 : m < n
  · by_cases h2 : q < p
    · exact long11 a n i p k t b m j q l u w h1 h2
    · exact long10 a n i p k t b m j q l u w h1 (by omega)
  · by_cases h2 : q < p
    · exact long01 a n i p k t b m j q l u w (by omega) h2
    · exact long00 a n i p k t b m j q l u w (by omega) (by omega)

theorem own : ownKnob Try.prog.godebug = none := by kernel_rfl
theorem laidOut : laidOutB Try.prog = true := by kernel_rfl
set_option maxRecDepth 100000 in
theorem lifted (os : Os) (started : os.Started) (H : Type) (enc : TypeId × Value → H) :
    ReturnsInHanded {} Try.checked os 8 .any (Rows.ruleLongSpec.pre6 enc Try.prog Try.f8 Rows.ruleLongRow.domain false) (Rows.ruleLongSpec.post enc Try.prog Try.f8 false true false false) := by
  refine returnsInHanded_of_change (C := Try.checked) own started (by kernel_rfl) Try.func8
    (ChangeSpec.witness6 (enc := enc) (C := Try.checked) false ⟨#[], #[.agg #[.int .i64 0, .int .i64 0, .int .i64 0, .int .i64 0, .int .i64 0, .int .i64 0], .agg #[.int .i64 0, .int .i64 0, .int .i64 0, .int .i64 0, .int .i64 0, .int .i64 0]], []⟩ 8 (by kernel_rfl) (by kernel_rfl) (by kernel_rfl) (by kernel_rfl)) ?_
  intro W base args ds gs before hval0 hW hcnd _
  have hval : ∀ (j : Nat) t v, Try.f8.params[j]? = some t → args[j]? = some v → Value.okWide Try.prog W .any base t v := hval0
  have hW' := hW
  obtain ⟨p, q, hA0, hV, rfl, hfz, hnd⟩ := hW
  have hA : DataW.TrodAll enc Try.prog W 0 (fun _ => true) true Try.f8.params.toList args.toList ds p := hA0
  rw [Try.params8] at hA hval
  obtain ⟨v0, vs0, d0, ds0, p0, q0, hargs, rfl, rfl, h0, r0⟩ := trodAll_cons hA
  obtain ⟨v1, vs1, d1, ds1, p1, q1, rfl, rfl, rfl, h1, r1⟩ := trodAll_cons r0
  obtain ⟨rfl, rfl, rfl⟩ := trodAll_nil r1
  obtain rfl : args = #[v0, v1] := by cases args; simp_all
  obtain ⟨rfl, rfl⟩ := trodVars_none hV
  have k0 := h0
  have lt0 : ∀ x ∈ p0, x.block < W.heap.size := by obtain ⟨m, hm⟩ := k0; exact DataW.trod_lt m _ _ _ hm
  have k1 := h1
  have lt1 : ∀ x ∈ p1, x.block < W.heap.size := by obtain ⟨m, hm⟩ := k1; exact DataW.trod_lt m _ _ _ hm
  obtain ⟨a0, b0, c0, d0, e0, f0, rfl, w0a, w0b, w0c, w0d, w0e, w0f⟩ := open_rule (hval 0 27 v0 rfl rfl) h0
  obtain ⟨a1, b1, c1, d1, e1, f1, rfl, w1a, w1b, w1c, w1d, w1e, w1f⟩ := open_rule (hval 1 27 v1 rfl rfl) h1
  clear hA0 hval0
  refine (walk a0 b0 c0 d0 e0 f0 a1 b1 c1 d1 e1 f1 w0a w0b w0c w0d w0e w0f w1a w1b w1c w1d w1e w1f W ).mono fun e W' ⟨he, bel⟩ => ?_
  subst he
  exact ⟨_, rfl, _, _, _, [], _, [], hW', trodAll_mk1 (shut_bool Try.underlying4 _), (trodAll_cons_mk (Below.trod laidOut (by kernel_rfl) (of_decide_eq_true (by kernel_rfl)) k0 bel lt0) (trodAll_cons_mk (Below.trod laidOut (by kernel_rfl) (of_decide_eq_true (by kernel_rfl)) k1 bel lt1) trodAll_mk0)), rfl, bel.frame _, fun h => by cases h⟩

theorem over : Rows.ruleLongRow.holds Try.pinned (OpenSpec.ofChange Rows.ruleLongSpec) :=
  OpenClaim.holds_of_wide 8 Try.f8 rfl rfl rfl rfl rfl rfl rfl ⟨rfl, rfl, rfl, rfl, rfl⟩ rfl rfl rfl rfl rfl (by kernel_rfl) Try.func8 (by kernel_rfl)
    (of_decide_eq_true (by kernel_rfl)) (by unfold Func.isWrapper; first | (rw [if_pos (by decide +kernel)]; kernel_rfl) | (rw [if_neg (by decide +kernel)]; exact ⟨rfl, rfl⟩))
    (fun os started H enc _ => lifted os started H enc)
end Go.Proofs.Ytkpgifpnmccdcaa.ruleLong
namespace Go.Proofs.Ytkpgifpnmccdcaa
theorem ruleLong_holds : Rows.RuleLongSaid := ruleLong.over
#print axioms ruleLong_holds
end Go.Proofs.Ytkpgifpnmccdcaa
