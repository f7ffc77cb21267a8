/- What the document's answers for two of a rule's questions come to, where none is put or got: Fits, Ahead, Alike (as in RuleRefs). -/
import Derived.Test.YtnmijgnflemhkaaRuleAhead
import Derived.Test.YtnmijgnflemhkaaBitsRefs
namespace Go.Proofs.Ytnmijgnflemhkaa
open Go.ChangeShapes Go.WideShapes Go.ChangeAt Go.RowKit R
set_option linter.unusedVariables false
set_option linter.unusedSimpArgs false

theorem rrAhead_any (a n i p k t b m j q l u : Int) (w : World) :
    Calls Try.prog 41 #[.agg #[.int .i64 a, .int .i64 n, .int .i64 i, .int .i64 p, .int .i64 k, .int .i64 t], .agg #[.int .i64 b, .int .i64 m, .int .i64 j, .int .i64 q, .int .i64 l, .int .i64 u]] w fun e w' => e = .returned (.bool (ahB n p i m q j)) ∧ Below w.heap.size w w' := by
  have hb0 := below_step (below_new w (.cells #[.int .i64 a, .int .i64 n, .int .i64 i, .int .i64 p, .int .i64 k, .int .i64 t] 42)) (below_new (w.alloc (.cells #[.int .i64 a, .int .i64 n, .int .i64 i, .int .i64 p, .int .i64 k, .int .i64 t] 42)) (.cells #[.int .i64 b, .int .i64 m, .int .i64 j, .int .i64 q, .int .i64 l, .int .i64 u] 42))
  by_cases h1 : n = m
  · have h1b : (n != m) = false := by simp [h1]
    by_cases h2 : p = q
    · have h2b : (p != q) = false := by simp [h2]
      have HE : Hid (ahB n p i m q j = decide (j < i)) := by unfold Hid ahB; rw [if_pos h1, if_pos h2]
      clear h1 h2
      go_enter Try.func41, Try.ntmps41
      go_wp2_with fail
      go_ret
      exact ⟨ret_bool HE.out.symm, hb0⟩
    · have h2b : (p != q) = true := by simp [h2]
      have HE : Hid (ahB n p i m q j = decide (q < p)) := by unfold Hid ahB; rw [if_pos h1, if_neg h2]
      clear h1 h2
      go_enter Try.func41, Try.ntmps41
      go_wp2_with fail
      go_ret
      exact ⟨ret_bool HE.out.symm, hb0⟩
  · have h1b : (n != m) = true := by simp [h1]
    have HE : Hid (ahB n p i m q j = decide (m < n)) := by unfold Hid ahB; rw [if_neg h1]
    clear h1
    go_enter Try.func41, Try.ntmps41
    go_wp2_with fail
    go_ret
    exact ⟨ret_bool HE.out.symm, hb0⟩
theorem rrAlike_any (a n i p k t b m j q l u : Int) (w : World) :
    Calls Try.prog 32 #[.agg #[.int .i64 a, .int .i64 n, .int .i64 i, .int .i64 p, .int .i64 k, .int .i64 t], .agg #[.int .i64 b, .int .i64 m, .int .i64 j, .int .i64 q, .int .i64 l, .int .i64 u]] w fun e w' => e = .returned (.bool (likeB a n i p b m j q)) ∧ Below w.heap.size w w' := by
  have hb0 := below_step (below_new w (.cells #[.int .i64 a, .int .i64 n, .int .i64 i, .int .i64 p, .int .i64 k, .int .i64 t] 42)) (below_new (w.alloc (.cells #[.int .i64 a, .int .i64 n, .int .i64 i, .int .i64 p, .int .i64 k, .int .i64 t] 42)) (.cells #[.int .i64 b, .int .i64 m, .int .i64 j, .int .i64 q, .int .i64 l, .int .i64 u] 42))
  have hE := eq_prefix a n b m
  rw [like_is]
  cases hh : (a == b && n == m)
  · rw [hh] at hE
    go_enter Try.func32, Try.ntmps32
    go_wp2_with fail
    go_ret
    exact ⟨rfl, hb0⟩
  rw [hh] at hE
  cases hi : (i == j)
  · go_enter Try.func32, Try.ntmps32
    go_wp2_with fail
    go_ret
    exact ⟨rfl, hb0⟩
  · go_enter Try.func32, Try.ntmps32
    go_wp2_with fail
    go_ret
    exact ⟨rfl, hb0⟩
end Go.Proofs.Ytnmijgnflemhkaa
