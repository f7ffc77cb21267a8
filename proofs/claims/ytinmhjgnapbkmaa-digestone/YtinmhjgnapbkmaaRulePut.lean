/- What Put of package rule answers, for all rules, and that the chapter's example holds, which each statement asks first. -/
import Derived.Test.YtinmhjgnapbkmaaRuleWalks
namespace Go.Proofs.Ytinmhjgnapbkmaa
open Go.ChangeShapes Go.WideShapes Go.ChangeAt Go.RowKit R
set_option linter.unusedVariables false
set_option linter.unusedSimpArgs false

/-- the six numbers of a rule are ints -/
def W6 (a n i p k t : Int) : Prop := ∀ z ∈ [a, n, i, p, k, t], (Lit.int .i64 z).wf = true
theorem w6_mk {a n i p k t : Int} (h0 : (Lit.int .i64 a).wf = true) (h1 : (Lit.int .i64 n).wf = true) (h2 : (Lit.int .i64 i).wf = true) (h3 : (Lit.int .i64 p).wf = true) (h4 : (Lit.int .i64 k).wf = true) (h5 : (Lit.int .i64 t).wf = true) : W6 a n i p k t := by
  intro z hz
  simp only [List.mem_cons, List.not_mem_nil, or_false] at hz
  rcases hz with rfl | rfl | rfl | rfl | rfl | rfl <;> assumption
theorem w6_put {a n i p k t : Int} (h : okR a n i p k t = true) : ∀ z ∈ [a, n, i + 1, p, k, t], (Lit.int .i64 z).wf = true := by
  have := okR_bd h
  intro z hz
  simp only [List.mem_cons, List.not_mem_nil, or_false] at hz
  rcases hz with rfl | rfl | rfl | rfl | rfl | rfl <;> exact wf_i64_mk (by omega) (by omega)

theorem numbers_any {a n i p k t : Int} (h : okR a n i p k t = true) (w : World) :
    Calls Try.prog 44 #[.agg #[.int .i64 a, .int .i64 n, .int .i64 i, .int .i64 p, .int .i64 k, .int .i64 t]] w fun e w' => ∃ x c, e = .returned (.slice x 6 c) ∧ Reads .i64 w' x c [a, n, i + 1, p, k, t] ∧ Below w.heap.size w w' := by
  have hw := w6_put h
  obtain ⟨h1, h2⟩ := (okR_bd h).2.2.1
  clear h
  go_enter Try.func44, Try.ntmps44
  go_wp2
  go_ret
  exact ⟨_, _, rfl, reads_new64 _ [a, n, i + 1, p, k, t] hw (by simp) (by simp) rfl, below_step (below_new w _) (below_new _ _)⟩
theorem widths_any (w : World) :
    Calls Try.prog 45 #[] w fun e w' => ∃ x c, e = .returned (.slice x 6 c) ∧ Reads .i64 w' x c [4, 1, 1, 1, 1, 1] ∧ Below w.heap.size w w' := by
  go_enter Try.func45, Try.ntmps45
  go_wp2
  go_ret
  exact ⟨_, _, rfl, reads_new64 _ [4, 1, 1, 1, 1, 1] (by decide) (by simp) rfl rfl, below_new w _⟩
theorem putAll_ru {a n i p k t : Int} (hk : okR a n i p k t = true) (w : World) {a1 a2 : Option Addr} {c1 c2 : Nat} (R1 : Reads .i64 w a1 c1 [a, n, i + 1, p, k, t]) (R2 : Reads .i64 w a2 c2 [4, 1, 1, 1, 1, 1]) :
    Calls Try.prog 43 #[.slice a1 6 c1, .slice a2 6 c2] w fun e w' => ∃ x c, e = .returned (.tuple #[.slice x 9 c, .int .i64 0]) ∧ Reads .u8 w' x c (bodyR a n i p k t) ∧ w'.ownsRow w.heap.size 5 1 (.slice x 9 c) 9 ((bodyR a n i p k t).map (Value.int .u8)) ∧ Below w.heap.size w w' := by
  have h := putAll_own w R1 R2 (by simp)
  have e : O.pallL [a, n, i + 1, p, k, t] [4, 1, 1, 1, 1, 1] = bodyR a n i p k t := rfl
  rw [(body_ok hk).1, e, body_len hk] at h
  exact h
/-- Put, of a rule that may be -/
theorem ruPut_ok {a n i p k t : Int} (hk : okR a n i p k t = true) (w : World) :
    Calls Try.prog 31 #[.agg #[.int .i64 a, .int .i64 n, .int .i64 i, .int .i64 p, .int .i64 k, .int .i64 t]] w fun e w' => ∃ x c, e = .returned (.tuple #[.slice x 9 c, .int .i64 0]) ∧ Reads .u8 w' x c (bodyR a n i p k t) ∧ w'.ownsRow w.heap.size 5 1 (.slice x 9 c) 9 ((bodyR a n i p k t).map (Value.int .u8)) ∧ Below w.heap.size w w' := by
  have X := Lies.new w [a, n, i, p, k, t] 35 rfl
  have hb0 := below_new w (.cells #[.int .i64 a, .int .i64 n, .int .i64 i, .int .i64 p, .int .i64 k, .int .i64 t] 35)
  have c1 := fun w => ruMay_any a n i p k t w
  rw [hk] at c1
  go_enter Try.func31, Try.ntmps31
  go_wp2_with fail
  refine (c1 _).mono ?_
  rintro e w1 ⟨rfl, hb1⟩
  obtain ⟨y0, y1, y2, y3, y4, y5⟩ := (X.later hb1).six
  go_wp2_with fail
  refine (numbers_any hk _).mono ?_
  rintro e w2 ⟨a2, k2, rfl, R2, hb2⟩
  go_wp2_with fail
  refine (widths_any _).mono ?_
  rintro e w3 ⟨a3, k3, rfl, R3, hb3⟩
  go_wp2_with fail
  refine (putAll_ru hk _ (R2.later hb3) R3).mono ?_
  rintro e w4 ⟨a4, k4, rfl, R4, own4, hb4⟩
  go_wp2_with fail
  go_ret2
  have hb3' : Below w.heap.size w w3 := below_step (below_step (below_step hb0 hb1) hb2) hb3
  exact ⟨a4, k4, rfl, R4, own_mono own4 hb3'.size, below_step hb3' hb4⟩
/-- Put, of a rule that may not be -/
theorem ruPut_bad {a n i p k t : Int} (hk : okR a n i p k t = false) (w : World) :
    Calls Try.prog 31 #[.agg #[.int .i64 a, .int .i64 n, .int .i64 i, .int .i64 p, .int .i64 k, .int .i64 t]] w fun e w' => e = .returned (.tuple #[.slice none 0 0, .int .i64 1]) ∧ Below w.heap.size w w' := by
  have hb0 := below_new w (.cells #[.int .i64 a, .int .i64 n, .int .i64 i, .int .i64 p, .int .i64 k, .int .i64 t] 35)
  have c1 := fun w => ruMay_any a n i p k t w
  rw [hk] at c1
  go_enter Try.func31, Try.ntmps31
  go_wp2_with fail
  refine (c1 _).mono ?_
  rintro e w1 ⟨rfl, hb1⟩
  go_wp2_with fail
  go_ret2
  exact ⟨rfl, below_step hb0 hb1⟩

end Go.Proofs.Ytinmhjgnapbkmaa
