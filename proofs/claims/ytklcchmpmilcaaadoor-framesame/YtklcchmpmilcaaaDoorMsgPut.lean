/- What Put of package msg answers, for all messages, and that the chapter's example holds, which each statement asks first. -/
import Derived.Test.YtklcchmpmilcaaaDoorMsgMay
namespace Go.Proofs.YtklcchmpmilcaaaDoor
open Go.ChangeShapes Go.WideShapes Go.ChangeAt Go.RowKit R Q
set_option linter.unusedVariables false
set_option linter.unusedSimpArgs false

theorem w4_put {y z v g a n i p k t : Int} (h : okM y z v g a n i p k t = true) : ∀ u ∈ [y, z, v, g], (Lit.int .i64 u).wf = true := by
  have := okM_bd h
  intro u hu
  simp only [List.mem_cons, List.not_mem_nil, or_false] at hu
  rcases hu with rfl | rfl | rfl | rfl <;> exact wf_i64_mk (by omega) (by omega)
theorem mNumbers_any {y z v g a n i p k t : Int} (hw : ∀ u ∈ [y, z, v, g], (Lit.int .i64 u).wf = true) (w : World) :
    Calls Tryd.prog 27 #[.agg #[.int .i64 y, .int .i64 z, .int .i64 v, .int .i64 g, .int .i64 a, .int .i64 n, .int .i64 i, .int .i64 p, .int .i64 k, .int .i64 t]] w fun e w' => ∃ x c, e = .returned (.slice x 4 c) ∧ Reads .i64 w' x c [y, z, v, g] ∧ Below w.heap.size w w' := by
  go_enter Tryd.func27, Tryd.ntmps27
  go_wp2
  go_ret
  exact ⟨_, _, rfl, reads_new64 _ [y, z, v, g] hw (by simp) (by simp) rfl, below_step (below_new w _) (below_new _ _)⟩
theorem mWidths_any (w : World) :
    Calls Tryd.prog 28 #[] w fun e w' => ∃ x c, e = .returned (.slice x 4 c) ∧ Reads .i64 w' x c [1, 3, 3, 2] ∧ Below w.heap.size w w' := by
  go_enter Tryd.func28, Tryd.ntmps28
  go_wp2
  go_ret
  exact ⟨_, _, rfl, reads_new64 _ [1, 3, 3, 2] (by decide) (by simp) rfl rfl, below_new w _⟩
theorem putAll_m {y z v g a n i p k t : Int} (hk : okM y z v g a n i p k t = true) (w : World) {a1 a2 : Option Addr} {c1 c2 : Nat} (R1 : Reads .i64 w a1 c1 [y, z, v, g]) (R2 : Reads .i64 w a2 c2 [1, 3, 3, 2]) :
    Calls Tryd.prog 26 #[.slice a1 4 c1, .slice a2 4 c2] w fun e w' => ∃ x c, e = .returned (.tuple #[.slice x 9 c, .int .i64 0]) ∧ Reads .u8 w' x c (bodyB y z v g) ∧ w'.ownsRow w.heap.size 5 1 (.slice x 9 c) 9 ((bodyB y z v g).map (Value.int .u8)) ∧ Below w.heap.size w w' := by
  have h := putAll_own w R1 R2 (by simp)
  have e : O.pallL [y, z, v, g] [1, 3, 3, 2] = bodyB y z v g := rfl
  rw [(bare_ok hk).1, e, bare_len hk] at h
  exact h
/-- Put, of a message that may not be -/
theorem mPut_bad {y z v g a n i p k t : Int} (hk : okM y z v g a n i p k t = false) (w : World) (T : Tab w) :
    Calls Tryd.prog 14 #[.agg #[.int .i64 y, .int .i64 z, .int .i64 v, .int .i64 g, .int .i64 a, .int .i64 n, .int .i64 i, .int .i64 p, .int .i64 k, .int .i64 t]] w fun e w' => e = .returned (.tuple #[.slice none 0 0, .int .i64 1]) ∧ Below w.heap.size w w' := by
  have hb0 := below_new w (.cells #[.int .i64 y, .int .i64 z, .int .i64 v, .int .i64 g, .int .i64 a, .int .i64 n, .int .i64 i, .int .i64 p, .int .i64 k, .int .i64 t] 29)
  have c1 := fun w T => mMay_any y z v g a n i p k t w T
  rw [hk] at c1
  go_enter Tryd.func14, Tryd.ntmps14
  go_wp2_with fail
  refine (c1 _ (T.later hb0)).mono ?_
  rintro e w1 ⟨rfl, hb1⟩
  go_wp2_with fail
  go_ret2
  exact ⟨rfl, below_step hb0 hb1⟩
/-- Put, of a message without a rule -/
theorem mPut_bare {y z v g a n i p k t : Int} (hk : okM y z v g a n i p k t = true) (hy : ¬ y = 2) (w : World) (T : Tab w) :
    Calls Tryd.prog 14 #[.agg #[.int .i64 y, .int .i64 z, .int .i64 v, .int .i64 g, .int .i64 a, .int .i64 n, .int .i64 i, .int .i64 p, .int .i64 k, .int .i64 t]] w fun e w' => ∃ x c, e = .returned (.tuple #[.slice x 9 c, .int .i64 0]) ∧ Reads .u8 w' x c (bodyB y z v g) ∧ Below w.heap.size w w' := by
  have hb0 := below_new w (.cells #[.int .i64 y, .int .i64 z, .int .i64 v, .int .i64 g, .int .i64 a, .int .i64 n, .int .i64 i, .int .i64 p, .int .i64 k, .int .i64 t] 29)
  have X := Lies.new w [y, z, v, g, a, n, i, p, k, t] 29 rfl
  have hw := w4_put hk
  have T0 := T.later hb0
  have c1 := fun w T => mMay_any y z v g a n i p k t w T
  have c2 := fun w T => mTells_any y w T
  rw [hk] at c1
  rw [decide_eq_false hy] at c2
  clear hy
  go_enter Tryd.func14, Tryd.ntmps14
  go_wp2_with fail
  refine (c1 _ T0).mono ?_
  rintro e w1 ⟨rfl, hb1⟩
  replace X := X.later hb1
  replace T0 := T0.later hb1
  have hB := below_step hb0 hb1
  obtain ⟨x0, x1, x2, x3, x4, x5, x6, x7, x8, x9⟩ := X.ten
  go_wp2_with fail
  refine (mNumbers_any hw _).mono ?_
  rintro e w2 ⟨a2, k2, rfl, R2, hb2⟩
  go_wp2_with fail
  refine (mWidths_any _).mono ?_
  rintro e w3 ⟨a3, k3, rfl, R3, hb3⟩
  go_wp2_with fail
  refine (putAll_m hk _ (R2.later hb3) R3).mono ?_
  rintro e w4 ⟨a4, k4, rfl, R4, own4, hb4⟩
  replace X := ((X.later hb2).later hb3).later hb4
  replace T0 := ((T0.later hb2).later hb3).later hb4
  replace hB := below_step (below_step (below_step hB hb2) hb3) hb4
  clear x0 x1 x2 x3 x4 x5 x6 x7 x8 x9
  obtain ⟨x0, x1, x2, x3, x4, x5, x6, x7, x8, x9⟩ := X.ten
  go_wp2_with fail
  refine (c2 _ T0).mono ?_
  rintro e w' ⟨rfl, rfl⟩
  go_wp2_with fail
  go_ret2
  exact ⟨a4, k4, rfl, R4, hB⟩
set_option maxHeartbeats 1000000 in
/-- Put, of a message with a rule -/
theorem mPut_add {z v g a n i p k t : Int} (hk : okM 2 z v g a n i p k t = true) (w : World) (T : Tab w) :
    Calls Tryd.prog 14 #[.agg #[.int .i64 2, .int .i64 z, .int .i64 v, .int .i64 g, .int .i64 a, .int .i64 n, .int .i64 i, .int .i64 p, .int .i64 k, .int .i64 t]] w fun e w' => ∃ x c, e = .returned (.tuple #[.slice x 18 c, .int .i64 0]) ∧ Reads .u8 w' x c (bodyB 2 z v g ++ bodyR a n i p k t) ∧ Below w.heap.size w w' := by
  have hb0 := below_new w (.cells #[.int .i64 2, .int .i64 z, .int .i64 v, .int .i64 g, .int .i64 a, .int .i64 n, .int .i64 i, .int .i64 p, .int .i64 k, .int .i64 t] 29)
  have X := Lies.new w [2, z, v, g, a, n, i, p, k, t] 29 rfl
  have hw := w4_put hk
  have hr := okM_rule hk rfl
  have hl := bare_len hk
  have hl2 := body_len hr
  have T0 := T.later hb0
  have c1 := fun w T => mMay_any 2 z v g a n i p k t w T
  rw [hk] at c1
  go_enter Tryd.func14, Tryd.ntmps14
  go_wp2_with fail
  refine (c1 _ T0).mono ?_
  rintro e w1 ⟨rfl, hb1⟩
  replace X := X.later hb1
  replace T0 := T0.later hb1
  have hB := below_step hb0 hb1
  obtain ⟨x0, x1, x2, x3, x4, x5, x6, x7, x8, x9⟩ := X.ten
  go_wp2_with fail
  refine (mNumbers_any hw _).mono ?_
  rintro e w2 ⟨a2, k2, rfl, R2, hb2⟩
  go_wp2_with fail
  refine (mWidths_any _).mono ?_
  rintro e w3 ⟨a3, k3, rfl, R3, hb3⟩
  replace hB := below_step (below_step hB hb2) hb3
  go_wp2_with fail
  refine (putAll_m hk _ (R2.later hb3) R3).mono ?_
  rintro e w4 ⟨a4, k4, rfl, R4, own4, hb4⟩
  replace X := ((X.later hb2).later hb3).later hb4
  replace T0 := ((T0.later hb2).later hb3).later hb4
  clear x0 x1 x2 x3 x4 x5 x6 x7 x8 x9
  obtain ⟨x0, x1, x2, x3, x4, x5, x6, x7, x8, x9⟩ := X.ten
  go_wp2_with fail
  refine (mTells_any 2 _ T0).mono ?_
  rintro e w' ⟨rfl, rfl⟩
  go_wp2_with fail
  refine (ruPut_ok hr _).mono ?_
  rintro e w5 ⟨a5, k5, rfl, R5, own5', hb5⟩
  have own5 := own_later own4 hb5
  have hB3 := hb4.size
  have hB4 := hb5.size
  go_wp2_with (at_builtin; refine wpList_join rfl (.tmp 36) (.tmp 37) 30 rfl w3.heap.size 5 1 Tryd.underlying30 info8 rfl own5 rfl R5 hl2 (by omega) (by omega) (by omega) ?_; intro v6 w6 own6 hgrow6)
  obtain ⟨a6, k6, e6, R6, _⟩ := reads_of_owns own6 (u8_wf (oct_join (bare_oct 2 z v g) (body_oct a n i p k t)))
  rw [List.length_append, hl, hl2] at e6
  subst e6
  go_ret2
  exact ⟨a6, k6, rfl, R6, below_grow (below_step (below_step hB hb4) hb5) (own_mono own5 hB.size) hgrow6 (by have := hB.size; omega)⟩
/-- Put, of any message that may be -/
theorem mPut_ok {y z v g a n i p k t : Int} (hk : okM y z v g a n i p k t = true) (w : World) (T : Tab w) :
    Calls Tryd.prog 14 #[.agg #[.int .i64 y, .int .i64 z, .int .i64 v, .int .i64 g, .int .i64 a, .int .i64 n, .int .i64 i, .int .i64 p, .int .i64 k, .int .i64 t]] w fun e w' => ∃ x c, e = .returned (.tuple #[.slice x (lenM y) c, .int .i64 0]) ∧ Reads .u8 w' x c (bodyM y z v g a n i p k t) ∧ Below w.heap.size w w' := by
  by_cases hy : y = 2
  · subst hy
    rw [bodyM_two rfl, lenM_two rfl]
    exact mPut_add hk w T
  · rw [bodyM_not hy, lenM_not hy]
    exact mPut_bare hk hy w T
end Go.Proofs.YtklcchmpmilcaaaDoor
