/- What the document's answers for two of a rule's questions come to, where none is put or got: Fits, Ahead, Alike (as in RuleRefs). -/
import Derived.Test.YtihgpllbgliplaaRuleAhead
import Derived.Test.YtihgpllbgliplaaBitsRefs
namespace Go.Proofs.Ytihgpllbgliplaa
open Go.ChangeShapes Go.WideShapes Go.ChangeAt Go.RowKit R
set_option linter.unusedVariables false
set_option linter.unusedSimpArgs false

theorem rrFits_any (a n i p k t x d : Int) (w : World) :
    Calls Try.prog 33 #[.agg #[.int .i64 a, .int .i64 n, .int .i64 i, .int .i64 p, .int .i64 k, .int .i64 t], .int .i64 x, .int .i64 d] w fun e w' => e = .returned (.bool (fitB a n i x d)) ∧ Below w.heap.size w w' := by
  have hb0 := below_new w (.cells #[.int .i64 a, .int .i64 n, .int .i64 i, .int .i64 p, .int .i64 k, .int .i64 t] 60)
  have X := Lies.new w [a, n, i, p, k, t] 60 rfl
  cases hh : M.hasB a n d
  · go_enter Try.func33, Try.ntmps33
    go_wp2_with fail
    refine (rhas_any a n d _).mono ?_
    rw [hh]
    rintro e w1 ⟨rfl, hb1⟩
    go_wp2_with fail
    go_ret
    exact ⟨ret_bool (by unfold fitB; rw [hh]; rfl), below_step hb0 hb1⟩
  by_cases h1 : i = -1
  · subst h1
    have HE : Hid (fitB a n (-1) x d = true) := by unfold Hid fitB; rw [hh]; simp
    go_enter Try.func33, Try.ntmps33
    go_wp2_with fail
    refine (rhas_any a n d _).mono ?_
    rw [hh]
    rintro e w1 ⟨rfl, hb1⟩
    obtain ⟨y0, y1, y2, y3, y4, y5⟩ := (X.later hb1).six
    go_wp2_with fail
    go_ret
    exact ⟨ret_bool HE.out.symm, below_step hb0 hb1⟩
  · have HE : Hid (fitB a n i x d = (i == -1 || i == x)) := by unfold Hid fitB; rw [hh, Bool.eq_iff_iff]; simp
    go_enter Try.func33, Try.ntmps33
    go_wp2_with fail
    refine (rhas_any a n d _).mono ?_
    rw [hh]
    rintro e w1 ⟨rfl, hb1⟩
    obtain ⟨y0, y1, y2, y3, y4, y5⟩ := (X.later hb1).six
    go_wp2_with fail
    go_ret
    exact ⟨ret_bool HE.out.symm, below_step hb0 hb1⟩
theorem rrAhead_any (a n i p k t b m j q l u : Int) (w : World) :
    Calls Try.prog 34 #[.agg #[.int .i64 a, .int .i64 n, .int .i64 i, .int .i64 p, .int .i64 k, .int .i64 t], .agg #[.int .i64 b, .int .i64 m, .int .i64 j, .int .i64 q, .int .i64 l, .int .i64 u]] w fun e w' => e = .returned (.bool (ahB n p i m q j)) ∧ Below w.heap.size w w' := by
  have hb0 := below_step (below_new w (.cells #[.int .i64 a, .int .i64 n, .int .i64 i, .int .i64 p, .int .i64 k, .int .i64 t] 60)) (below_new (w.alloc (.cells #[.int .i64 a, .int .i64 n, .int .i64 i, .int .i64 p, .int .i64 k, .int .i64 t] 60)) (.cells #[.int .i64 b, .int .i64 m, .int .i64 j, .int .i64 q, .int .i64 l, .int .i64 u] 60))
  by_cases h1 : n = m
  · have h1b : (n != m) = false := by simp [h1]
    by_cases h2 : p = q
    · have h2b : (p != q) = false := by simp [h2]
      have HE : Hid (ahB n p i m q j = decide (j < i)) := by unfold Hid ahB; rw [if_pos h1, if_pos h2]
      clear h1 h2
      go_enter Try.func34, Try.ntmps34
      go_wp2_with fail
      go_ret
      exact ⟨ret_bool HE.out.symm, hb0⟩
    · have h2b : (p != q) = true := by simp [h2]
      have HE : Hid (ahB n p i m q j = decide (q < p)) := by unfold Hid ahB; rw [if_pos h1, if_neg h2]
      clear h1 h2
      go_enter Try.func34, Try.ntmps34
      go_wp2_with fail
      go_ret
      exact ⟨ret_bool HE.out.symm, hb0⟩
  · have h1b : (n != m) = true := by simp [h1]
    have HE : Hid (ahB n p i m q j = decide (m < n)) := by unfold Hid ahB; rw [if_neg h1]
    clear h1
    go_enter Try.func34, Try.ntmps34
    go_wp2_with fail
    go_ret
    exact ⟨ret_bool HE.out.symm, hb0⟩
end Go.Proofs.Ytihgpllbgliplaa
