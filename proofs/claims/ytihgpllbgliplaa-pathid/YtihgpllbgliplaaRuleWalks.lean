/- What the small calls of package rule answer, for all arguments: the contracts that the claims on its statements rest on. -/
import Derived.Test.YtihgpllbgliplaaRds
import Derived.Test.YtihgpllbgliplaaBitsWalks
import Derived.Test.YtihgpllbgliplaaMaths
import Derived.Deep.RegionHeld3
namespace Go.Proofs.Ytihgpllbgliplaa
open Go.ChangeShapes Go.WideShapes Go.ChangeAt Go.RowKit R
set_option linter.unusedVariables false
set_option linter.unusedSimpArgs false

theorem ruWithin_any (n l m : Int) (w : World) :
    Calls Try.prog 56 #[.int .i64 n, .int .i64 l, .int .i64 m] w fun e w' => e = .returned (.bool (decide (l ≤ n ∧ n ≤ m))) ∧ w' = w := by
  by_cases h : l ≤ n
  · go_enter Try.func56, Try.ntmps56
    go_wp2
    go_ret
    exact ⟨ret_bool (by simp [h]), rfl⟩
  · go_enter Try.func56, Try.ntmps56
    go_wp2
    go_ret
    exact ⟨ret_bool (by simp; omega), rfl⟩
theorem mayAct_any (k t : Int) (w : World) :
    Calls Try.prog 57 #[.agg #[.int .i64 k, .int .i64 t]] w fun e w' => e = .returned (.bool (actB k t)) ∧ Below w.heap.size w w' := by
  have hb0 := below_new w (.cells #[.int .i64 k, .int .i64 t] 50)
  by_cases h0 : k = 0
  · subst h0
    go_enter Try.func57, Try.ntmps57
    go_wp2
    go_ret
    exact ⟨ret_bool (by unfold actB; rw [if_pos rfl]; rw [Bool.eq_iff_iff]; simp), hb0⟩
  by_cases h1 : k = 1
  · subst h1
    have HE : Hid (actB 1 t = decide (0 ≤ t ∧ t ≤ 7)) := rfl
    have c1 := ruWithin_any t 0 7
    rw [← HE.out] at c1
    clear HE h0
    go_enter Try.func57, Try.ntmps57
    go_wp2_with fail
    refine (c1 _).mono ?_
    rintro e w' ⟨rfl, rfl⟩
    go_wp2
    go_ret
    exact ⟨rfl, hb0⟩
  · go_enter Try.func57, Try.ntmps57
    go_wp2
    go_ret
    exact ⟨ret_bool (by unfold actB; rw [if_neg h0, if_neg h1]), hb0⟩
set_option maxHeartbeats 1000000 in
theorem ruMay_any (a n i p k t : Int) (w : World) :
    Calls Try.prog 48 #[.agg #[.int .i64 a, .int .i64 n, .int .i64 i, .int .i64 p, .int .i64 k, .int .i64 t]] w fun e w' => e = .returned (.bool (okR a n i p k t)) ∧ Below w.heap.size w w' := by
  have hb0 := below_new w (.cells #[.int .i64 a, .int .i64 n, .int .i64 i, .int .i64 p, .int .i64 k, .int .i64 t] 60)
  have X := Lies.new w [a, n, i, p, k, t] 60 rfl
  have hok : okR a n i p k t = (M.mayB a n && decide (-1 ≤ i ∧ i ≤ 7) && decide (0 ≤ p ∧ p ≤ 255) && actB k t) := rfl
  rw [hok]
  clear hok
  have c1 := fun w => may_any a n w
  have c2 := fun w => ruWithin_any i (-1) 7 w
  have c3 := fun w => ruWithin_any p 0 255 w
  have c4 := fun w => mayAct_any k t w
  obtain ⟨x, hx⟩ : ∃ x, M.mayB a n = x := ⟨_, rfl⟩
  obtain ⟨y, hy⟩ : ∃ x, decide (-1 ≤ i ∧ i ≤ 7) = x := ⟨_, rfl⟩
  obtain ⟨z, hz⟩ : ∃ x, decide (0 ≤ p ∧ p ≤ 255) = x := ⟨_, rfl⟩
  rw [hx] at c1
  rw [hy] at c2
  rw [hz] at c3
  rw [hx, hy, hz]
  clear hx hy hz
  cases x
  · go_enter Try.func48, Try.ntmps48
    go_wp2_with fail
    refine (c1 _).mono ?_
    rintro e w1 ⟨rfl, hb1⟩
    go_wp2_with fail
    go_ret
    exact ⟨rfl, below_step hb0 hb1⟩
  cases y
  · go_enter Try.func48, Try.ntmps48
    go_wp2_with fail
    refine (c1 _).mono ?_
    rintro e w1 ⟨rfl, hb1⟩
    obtain ⟨y0, y1, y2, y3, y4, y5⟩ := (X.later hb1).six
    go_wp2_with fail
    refine (c2 _).mono ?_
    rintro e w' ⟨rfl, rfl⟩
    go_wp2_with fail
    go_ret
    exact ⟨rfl, below_step hb0 hb1⟩
  cases z
  · go_enter Try.func48, Try.ntmps48
    go_wp2_with fail
    refine (c1 _).mono ?_
    rintro e w1 ⟨rfl, hb1⟩
    obtain ⟨y0, y1, y2, y3, y4, y5⟩ := (X.later hb1).six
    go_wp2_with fail
    refine (c2 _).mono ?_
    rintro e w' ⟨rfl, rfl⟩
    go_wp2_with fail
    refine (c3 _).mono ?_
    rintro e w' ⟨rfl, rfl⟩
    go_wp2_with fail
    go_ret
    exact ⟨rfl, below_step hb0 hb1⟩
  · go_enter Try.func48, Try.ntmps48
    go_wp2_with fail
    refine (c1 _).mono ?_
    rintro e w1 ⟨rfl, hb1⟩
    obtain ⟨y0, y1, y2, y3, y4, y5⟩ := (X.later hb1).six
    go_wp2_with fail
    refine (c2 _).mono ?_
    rintro e w' ⟨rfl, rfl⟩
    go_wp2_with fail
    refine (c3 _).mono ?_
    rintro e w' ⟨rfl, rfl⟩
    go_wp2_with fail
    refine (c4 _).mono ?_
    rintro e w2 ⟨rfl, hb2⟩
    go_wp2_with fail
    go_ret
    exact ⟨rfl, below_step (below_step hb0 hb1) hb2⟩
theorem ruFits_any (a n i p k t x d : Int) (w : World) :
    Calls Try.prog 44 #[.agg #[.int .i64 a, .int .i64 n, .int .i64 i, .int .i64 p, .int .i64 k, .int .i64 t], .int .i64 x, .int .i64 d] w fun e w' => e = .returned (.bool (fitB a n i x d)) ∧ Below w.heap.size w w' := by
  have hb0 := below_new w (.cells #[.int .i64 a, .int .i64 n, .int .i64 i, .int .i64 p, .int .i64 k, .int .i64 t] 60)
  have X := Lies.new w [a, n, i, p, k, t] 60 rfl
  cases hh : M.hasB a n d
  · go_enter Try.func44, Try.ntmps44
    go_wp2_with fail
    refine (has_any a n d _).mono ?_
    rw [hh]
    rintro e w1 ⟨rfl, hb1⟩
    go_wp2_with fail
    go_ret
    exact ⟨ret_bool (by unfold fitB; rw [hh]; rfl), below_step hb0 hb1⟩
  by_cases h1 : i = -1
  · subst h1
    have HE : Hid (fitB a n (-1) x d = true) := by unfold Hid fitB; rw [hh]; simp
    go_enter Try.func44, Try.ntmps44
    go_wp2_with fail
    refine (has_any a n d _).mono ?_
    rw [hh]
    rintro e w1 ⟨rfl, hb1⟩
    obtain ⟨y0, y1, y2, y3, y4, y5⟩ := (X.later hb1).six
    go_wp2_with fail
    go_ret
    exact ⟨ret_bool HE.out.symm, below_step hb0 hb1⟩
  · have HE : Hid (fitB a n i x d = (i == -1 || i == x)) := by unfold Hid fitB; rw [hh, Bool.eq_iff_iff]; simp
    go_enter Try.func44, Try.ntmps44
    go_wp2_with fail
    refine (has_any a n d _).mono ?_
    rw [hh]
    rintro e w1 ⟨rfl, hb1⟩
    obtain ⟨y0, y1, y2, y3, y4, y5⟩ := (X.later hb1).six
    go_wp2_with fail
    go_ret
    exact ⟨ret_bool HE.out.symm, below_step hb0 hb1⟩
end Go.Proofs.Ytihgpllbgliplaa
