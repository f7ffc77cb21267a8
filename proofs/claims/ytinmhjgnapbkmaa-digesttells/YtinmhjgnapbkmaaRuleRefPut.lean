/- What the document's Put of a rule comes to. -/
import Derived.Test.YtinmhjgnapbkmaaRuleRefMay
import Derived.Test.YtinmhjgnapbkmaaOctAllRefs
import Derived.Test.YtinmhjgnapbkmaaRulePut
namespace Go.Proofs.Ytinmhjgnapbkmaa
open Go.ChangeShapes Go.WideShapes Go.ChangeAt Go.RowKit R
set_option linter.unusedVariables false
set_option linter.unusedSimpArgs false
theorem rputAll_ru {a n i p k t : Int} (hk : okR a n i p k t = true) (w : World) {a1 a2 : Option Addr} {c1 c2 : Nat} (R1 : Reads .i64 w a1 c1 [a, n, i + 1, p, k, t]) (R2 : Reads .i64 w a2 c2 [4, 1, 1, 1, 1, 1]) :
    Calls Try.prog 35 #[.slice a1 6 c1, .slice a2 6 c2] w fun e w' => ∃ x c, e = .returned (.tuple #[.slice x 9 c, .int .i64 0]) ∧ Reads .u8 w' x c (bodyR a n i p k t) ∧ Below w.heap.size w w' := by
  have h := rputAll_own w R1 R2 (by simp)
  have e : O.pallL [a, n, i + 1, p, k, t] [4, 1, 1, 1, 1, 1] = bodyR a n i p k t := rfl
  rw [(body_ok hk).1, e, body_len hk] at h
  exact h.mono fun _ _ ⟨x, c, h1, h2, _, h3⟩ => ⟨x, c, h1, h2, h3⟩
theorem rrPut_ok {a n i p k t : Int} (hk : okR a n i p k t = true) (w : World) :
    Calls Try.prog 21 #[.agg #[.int .i64 a, .int .i64 n, .int .i64 i, .int .i64 p, .int .i64 k, .int .i64 t]] w fun e w' => ∃ x c, e = .returned (.tuple #[.slice x 9 c, .int .i64 0]) ∧ Reads .u8 w' x c (bodyR a n i p k t) ∧ Below w.heap.size w w' := by
  have X := Lies.new w [a, n, i, p, k, t] 35 rfl
  have hb0 := below_new w (.cells #[.int .i64 a, .int .i64 n, .int .i64 i, .int .i64 p, .int .i64 k, .int .i64 t] 35)
  have c1 := fun w => rrMay_any a n i p k t w
  rw [hk] at c1
  obtain ⟨g1, g2⟩ := (okR_bd hk).2.2.1
  have hw := w6_put hk
  go_enter Try.func21, Try.ntmps21
  go_wp2_with fail
  refine (c1 _).mono ?_
  rintro e w1 ⟨rfl, hb1⟩
  obtain ⟨y0, y1, y2, y3, y4, y5⟩ := (X.later hb1).six
  go_wp2_with fail
  have hbn := below_new w1 (.cells #[.int .i64 a, .int .i64 n, .int .i64 (i+1), .int .i64 p, .int .i64 k, .int .i64 t] 3)
  have hbm := below_new (w1.alloc (.cells #[.int .i64 a, .int .i64 n, .int .i64 (i+1), .int .i64 p, .int .i64 k, .int .i64 t] 3)) (.cells #[.int .i64 4, .int .i64 1, .int .i64 1, .int .i64 1, .int .i64 1, .int .i64 1] 3)
  refine (rputAll_ru hk _ ((reads_new64 w1 [a, n, i + 1, p, k, t] hw (by simp) rfl rfl).later hbm) (reads_new64 (w1.alloc (.cells #[.int .i64 a, .int .i64 n, .int .i64 (i+1), .int .i64 p, .int .i64 k, .int .i64 t] 3)) [4, 1, 1, 1, 1, 1] (by decide) (by simp) (by simp) rfl)).mono ?_
  rintro e w4 ⟨a4, k4, rfl, R4, hb4⟩
  go_wp2_with fail
  go_ret2
  exact ⟨a4, k4, rfl, R4, below_step (below_step (below_step (below_step hb0 hb1) hbn) hbm) hb4⟩
theorem rrPut_bad {a n i p k t : Int} (hk : okR a n i p k t = false) (w : World) :
    Calls Try.prog 21 #[.agg #[.int .i64 a, .int .i64 n, .int .i64 i, .int .i64 p, .int .i64 k, .int .i64 t]] w fun e w' => e = .returned (.tuple #[.slice none 0 0, .int .i64 1]) ∧ Below w.heap.size w w' := by
  have hb0 := below_new w (.cells #[.int .i64 a, .int .i64 n, .int .i64 i, .int .i64 p, .int .i64 k, .int .i64 t] 35)
  have c1 := fun w => rrMay_any a n i p k t w
  rw [hk] at c1
  go_enter Try.func21, Try.ntmps21
  go_wp2_with fail
  refine (c1 _).mono ?_
  rintro e w1 ⟨rfl, hb1⟩
  go_wp2_with fail
  go_ret2
  exact ⟨rfl, below_step hb0 hb1⟩
end Go.Proofs.Ytinmhjgnapbkmaa
