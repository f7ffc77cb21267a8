/- What the document's answer for a message's bytes comes to: the contract of Put that the statements on package msg are held against. -/
import Derived.Test.YtklcchmpmilcaaaDoorMsgRefs
namespace Go.Proofs.YtklcchmpmilcaaaDoor
open Go.ChangeShapes Go.WideShapes Go.ChangeAt Go.RowKit R Q
set_option linter.unusedVariables false
set_option linter.unusedSimpArgs false

theorem rputAll_m {y z v g a n i p k t : Int} (hk : okM y z v g a n i p k t = true) (w : World) {a1 a2 : Option Addr} {c1 c2 : Nat} (R1 : Reads .i64 w a1 c1 [y, z, v, g]) (R2 : Reads .i64 w a2 c2 [1, 3, 3, 2]) :
    Calls Tryd.prog 39 #[.slice a1 4 c1, .slice a2 4 c2] w fun e w' => ∃ x c, e = .returned (.tuple #[.slice x 9 c, .int .i64 0]) ∧ Reads .u8 w' x c (bodyB y z v g) ∧ w'.ownsRow w.heap.size 5 1 (.slice x 9 c) 9 ((bodyB y z v g).map (Value.int .u8)) ∧ Below w.heap.size w w' := by
  have h := rputAll_own w R1 R2 (by simp)
  have e : O.pallL [y, z, v, g] [1, 3, 3, 2] = bodyB y z v g := rfl
  rw [(bare_ok hk).1, e, bare_len hk] at h
  exact h
theorem rmPut_bad {y z v g a n i p k t : Int} (hk : okM y z v g a n i p k t = false) (w : World) :
    Calls Tryd.prog 19 #[.agg #[.int .i64 y, .int .i64 z, .int .i64 v, .int .i64 g, .int .i64 a, .int .i64 n, .int .i64 i, .int .i64 p, .int .i64 k, .int .i64 t]] w fun e w' => e = .returned (.tuple #[.slice none 0 0, .int .i64 1]) ∧ Below w.heap.size w w' := by
  have hb0 := below_new w (.cells #[.int .i64 y, .int .i64 z, .int .i64 v, .int .i64 g, .int .i64 a, .int .i64 n, .int .i64 i, .int .i64 p, .int .i64 k, .int .i64 t] 29)
  have c1 := fun w => rmMay_any y z v g a n i p k t w
  rw [hk] at c1
  go_enter Tryd.func19, Tryd.ntmps19
  go_wp2_with fail
  refine (c1 _).mono ?_
  rintro e w1 ⟨rfl, hb1⟩
  go_wp2_with fail
  go_ret2
  exact ⟨rfl, below_step hb0 hb1⟩
set_option maxHeartbeats 1000000 in
theorem rmPut_bare {y z v g a n i p k t : Int} (hk : okM y z v g a n i p k t = true) (hy : ¬ y = 2) (w : World) :
    Calls Tryd.prog 19 #[.agg #[.int .i64 y, .int .i64 z, .int .i64 v, .int .i64 g, .int .i64 a, .int .i64 n, .int .i64 i, .int .i64 p, .int .i64 k, .int .i64 t]] w fun e w' => ∃ x c, e = .returned (.tuple #[.slice x 9 c, .int .i64 0]) ∧ Reads .u8 w' x c (bodyB y z v g) ∧ Below w.heap.size w w' := by
  have hB := below_new w (.cells #[.int .i64 y, .int .i64 z, .int .i64 v, .int .i64 g, .int .i64 a, .int .i64 n, .int .i64 i, .int .i64 p, .int .i64 k, .int .i64 t] 29)
  have X := Lies.new w [y, z, v, g, a, n, i, p, k, t] 29 rfl
  have hw := w4_put hk
  have hy2 : (y == 2) = false := by simpa using hy
  have c1 := fun w => rmMay_any y z v g a n i p k t w
  rw [hk] at c1
  go_enter Tryd.func19, Tryd.ntmps19
  go_wp2_with fail
  refine (c1 _).mono ?_
  rintro e w1 ⟨rfl, hb1⟩
  replace X := X.later hb1
  replace hB := below_step hB hb1
  obtain ⟨x0, x1, x2, x3, x4, x5, x6, x7, x8, x9⟩ := X.ten
  have hbn := below_new w1 (.cells #[.int .i64 y, .int .i64 z, .int .i64 v, .int .i64 g] 3)
  obtain ⟨p0, p1, p2, p3, p4, p5, p6, p7, p8, p9⟩ := (X.later hbn).ten
  have hbm := below_new (w1.alloc (.cells #[.int .i64 y, .int .i64 z, .int .i64 v, .int .i64 g] 3)) (.cells #[.int .i64 1, .int .i64 3, .int .i64 3, .int .i64 2] 3)
  replace X := (X.later hbn).later hbm
  replace hB := below_step (below_step hB hbn) hbm
  go_wp2_with fail
  refine (rputAll_m hk _ ((reads_new64 w1 [y, z, v, g] hw (by simp) rfl rfl).later hbm) (reads_new64 (w1.alloc (.cells #[.int .i64 y, .int .i64 z, .int .i64 v, .int .i64 g] 3)) [1, 3, 3, 2] (by decide) (by simp) (by simp) rfl)).mono ?_
  rintro e w4 ⟨a4, k4, rfl, R4, own4, hb4⟩
  clear x0 x1 x2 x3 x4 x5 x6 x7 x8 x9 p0 p1 p2 p3 p4 p5 p6 p7 p8 p9 hbn hbm
  replace X := X.later hb4
  obtain ⟨x0, x1, x2, x3, x4, x5, x6, x7, x8, x9⟩ := X.ten
  go_wp2_with fail
  go_ret2
  exact ⟨a4, k4, rfl, R4, below_step hB hb4⟩
set_option maxHeartbeats 1000000 in
theorem rmPut_add {z v g a n i p k t : Int} (hk : okM 2 z v g a n i p k t = true) (w : World) :
    Calls Tryd.prog 19 #[.agg #[.int .i64 2, .int .i64 z, .int .i64 v, .int .i64 g, .int .i64 a, .int .i64 n, .int .i64 i, .int .i64 p, .int .i64 k, .int .i64 t]] w fun e w' => ∃ x c, e = .returned (.tuple #[.slice x 18 c, .int .i64 0]) ∧ Reads .u8 w' x c (bodyB 2 z v g ++ bodyR a n i p k t) ∧ Below w.heap.size w w' := by
  have hB := below_new w (.cells #[.int .i64 2, .int .i64 z, .int .i64 v, .int .i64 g, .int .i64 a, .int .i64 n, .int .i64 i, .int .i64 p, .int .i64 k, .int .i64 t] 29)
  have X := Lies.new w [2, z, v, g, a, n, i, p, k, t] 29 rfl
  have hw := w4_put hk
  have hr := okM_rule hk rfl
  have hl := bare_len hk
  have hl2 := body_len hr
  have c1 := fun w => rmMay_any 2 z v g a n i p k t w
  rw [hk] at c1
  go_enter Tryd.func19, Tryd.ntmps19
  go_wp2_with fail
  refine (c1 _).mono ?_
  rintro e w1 ⟨rfl, hb1⟩
  replace X := X.later hb1
  replace hB := below_step hB hb1
  obtain ⟨x0, x1, x2, x3, x4, x5, x6, x7, x8, x9⟩ := X.ten
  have hbn := below_new w1 (.cells #[.int .i64 2, .int .i64 z, .int .i64 v, .int .i64 g] 3)
  obtain ⟨p0, p1, p2, p3, p4, p5, p6, p7, p8, p9⟩ := (X.later hbn).ten
  have hbm := below_new (w1.alloc (.cells #[.int .i64 2, .int .i64 z, .int .i64 v, .int .i64 g] 3)) (.cells #[.int .i64 1, .int .i64 3, .int .i64 3, .int .i64 2] 3)
  replace X := (X.later hbn).later hbm
  replace hB := below_step (below_step hB hbn) hbm
  go_wp2_with fail
  refine (rputAll_m hk _ ((reads_new64 w1 [2, z, v, g] hw (by simp) rfl rfl).later hbm) (reads_new64 (w1.alloc (.cells #[.int .i64 2, .int .i64 z, .int .i64 v, .int .i64 g] 3)) [1, 3, 3, 2] (by decide) (by simp) (by simp) rfl)).mono ?_
  rintro e w4 ⟨a4, k4, rfl, R4, own4, hb4⟩
  clear x0 x1 x2 x3 x4 x5 x6 x7 x8 x9 p0 p1 p2 p3 p4 p5 p6 p7 p8 p9 hbn hbm
  replace X := X.later hb4
  obtain ⟨x0, x1, x2, x3, x4, x5, x6, x7, x8, x9⟩ := X.ten
  go_wp2_with fail
  refine (rrPut_ok hr _).mono ?_
  rintro e w5 ⟨a5, k5, rfl, R5, hb5⟩
  have own5 := own_later own4 hb5
  have hB3 := hb4.size
  have hB4 := hb5.size
  obtain ⟨bs, hbs⟩ : ∃ bs, bs = ((w1.alloc (.cells #[.int .i64 2, .int .i64 z, .int .i64 v, .int .i64 g] 3)).alloc (.cells #[.int .i64 1, .int .i64 3, .int .i64 3, .int .i64 2] 3)).heap.size := ⟨_, rfl⟩
  rw [← hbs] at own5 hB3
  go_wp2_with (at_builtin; refine wpList_join rfl (.tmp 36) (.tmp 37) 30 rfl bs 5 1 Tryd.underlying30 info8 rfl own5 rfl R5 hl2 (by omega) (by omega) (by omega) ?_; intro v6 w6 own6 hgrow6)
  obtain ⟨a6, k6, e6, R6, _⟩ := reads_of_owns own6 (u8_wf (oct_join (bare_oct 2 z v g) (body_oct a n i p k t)))
  rw [List.length_append, hl, hl2] at e6
  subst e6
  go_wp2_with fail
  go_ret2
  have hsz := hB.size
  rw [← hbs] at hsz
  exact ⟨a6, k6, rfl, R6, below_grow (below_step (below_step hB hb4) hb5) (own_mono own5 hsz) hgrow6 (by omega)⟩
theorem rmPut_ok {y z v g a n i p k t : Int} (hk : okM y z v g a n i p k t = true) (w : World) :
    Calls Tryd.prog 19 #[.agg #[.int .i64 y, .int .i64 z, .int .i64 v, .int .i64 g, .int .i64 a, .int .i64 n, .int .i64 i, .int .i64 p, .int .i64 k, .int .i64 t]] w fun e w' => ∃ x c, e = .returned (.tuple #[.slice x (lenM y) c, .int .i64 0]) ∧ Reads .u8 w' x c (bodyM y z v g a n i p k t) ∧ Below w.heap.size w w' := by
  by_cases hy : y = 2
  · subst hy
    rw [bodyM_two rfl, lenM_two rfl]
    exact rmPut_add hk w
  · rw [bodyM_not hy, lenM_not hy]
    exact rmPut_bare hk hy w
end Go.Proofs.YtklcchmpmilcaaaDoor
