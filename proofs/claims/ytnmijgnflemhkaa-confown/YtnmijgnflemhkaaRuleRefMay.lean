/- What the document's May of a rule comes to (as in RuleRefs, where nothing is put or got). -/
import Derived.Test.YtnmijgnflemhkaaRuleRefTwo
namespace Go.Proofs.Ytnmijgnflemhkaa
open Go.ChangeShapes Go.WideShapes Go.ChangeAt Go.RowKit R
set_option linter.unusedVariables false
set_option linter.unusedSimpArgs false

set_option maxHeartbeats 2000000 in
theorem rrMay_any (a n i p k t : Int) (w : World) :
    Calls Try.prog 31 #[.agg #[.int .i64 a, .int .i64 n, .int .i64 i, .int .i64 p, .int .i64 k, .int .i64 t]] w fun e w' => e = .returned (.bool (okR a n i p k t)) ∧ Below w.heap.size w w' := by
  have hb0 := below_new w (.cells #[.int .i64 a, .int .i64 n, .int .i64 i, .int .i64 p, .int .i64 k, .int .i64 t] 42)
  have X := Lies.new w [a, n, i, p, k, t] 42 rfl
  have c1 := fun w => rmay_any a n w
  cases hm : M.mayB a n
  · rw [hm] at c1
    have HE : Hid (okR a n i p k t = false) := by unfold Hid okR; rw [hm]; rfl
    go_enter Try.func31, Try.ntmps31
    go_wp2_with fail
    refine (c1 _).mono ?_
    rintro e w1 ⟨rfl, hb1⟩
    go_wp2_with fail
    go_ret
    exact ⟨ret_bool HE.out.symm, below_step hb0 hb1⟩
  rw [hm] at c1
  by_cases h0 : i < -1
  · have HE : Hid (okR a n i p k t = false) := by unfold Hid okR; rw [hm]; simp; omega
    go_enter Try.func31, Try.ntmps31
    go_wp2_with fail
    refine (c1 _).mono ?_
    rintro e w1 ⟨rfl, hb1⟩
    obtain ⟨y0, y1, y2, y3, y4, y5⟩ := (X.later hb1).six
    go_wp2_with fail
    go_ret
    exact ⟨ret_bool HE.out.symm, below_step hb0 hb1⟩
  by_cases h1 : 7 < i
  · have HE : Hid (okR a n i p k t = false) := by unfold Hid okR; rw [hm]; simp; omega
    go_enter Try.func31, Try.ntmps31
    go_wp2_with fail
    refine (c1 _).mono ?_
    rintro e w1 ⟨rfl, hb1⟩
    obtain ⟨y0, y1, y2, y3, y4, y5⟩ := (X.later hb1).six
    go_wp2_with fail
    go_ret
    exact ⟨ret_bool HE.out.symm, below_step hb0 hb1⟩
  by_cases h2 : p < 0
  · have HE : Hid (okR a n i p k t = false) := by unfold Hid okR; rw [hm]; simp; omega
    go_enter Try.func31, Try.ntmps31
    go_wp2_with fail
    refine (c1 _).mono ?_
    rintro e w1 ⟨rfl, hb1⟩
    obtain ⟨y0, y1, y2, y3, y4, y5⟩ := (X.later hb1).six
    go_wp2_with fail
    go_ret
    exact ⟨ret_bool HE.out.symm, below_step hb0 hb1⟩
  by_cases h3 : 255 < p
  · have HE : Hid (okR a n i p k t = false) := by unfold Hid okR; rw [hm]; simp; omega
    go_enter Try.func31, Try.ntmps31
    go_wp2_with fail
    refine (c1 _).mono ?_
    rintro e w1 ⟨rfl, hb1⟩
    obtain ⟨y0, y1, y2, y3, y4, y5⟩ := (X.later hb1).six
    go_wp2_with fail
    go_ret
    exact ⟨ret_bool HE.out.symm, below_step hb0 hb1⟩
  have hok : okR a n i p k t = actB k t := by unfold okR; rw [hm, decide_eq_true (show -1 ≤ i ∧ i ≤ 7 by omega), decide_eq_true (show 0 ≤ p ∧ p ≤ 255 by omega)]; simp
  rw [hok]
  clear hok
  by_cases k0 : k = 0
  · subst k0
    have HE : Hid (actB 0 t = (t == 0)) := by unfold Hid actB; rw [if_pos rfl, Bool.eq_iff_iff]; simp
    go_enter Try.func31, Try.ntmps31
    go_wp2_with fail
    refine (c1 _).mono ?_
    rintro e w1 ⟨rfl, hb1⟩
    obtain ⟨y0, y1, y2, y3, y4, y5⟩ := (X.later hb1).six
    go_wp2_with fail
    go_ret
    exact ⟨ret_bool HE.out.symm, below_step hb0 hb1⟩
  by_cases k1 : ¬ k = 1
  · skip
    have HE : Hid (actB k t = false) := by unfold Hid actB; rw [if_neg k0, if_neg k1]
    go_enter Try.func31, Try.ntmps31
    go_wp2_with fail
    refine (c1 _).mono ?_
    rintro e w1 ⟨rfl, hb1⟩
    obtain ⟨y0, y1, y2, y3, y4, y5⟩ := (X.later hb1).six
    go_wp2_with fail
    go_ret
    exact ⟨ret_bool HE.out.symm, below_step hb0 hb1⟩
  obtain rfl : k = 1 := by omega
  by_cases k2 : t < 0
  · have HE : Hid (actB 1 t = false) := by unfold Hid actB; simp; omega
    go_enter Try.func31, Try.ntmps31
    go_wp2_with fail
    refine (c1 _).mono ?_
    rintro e w1 ⟨rfl, hb1⟩
    obtain ⟨y0, y1, y2, y3, y4, y5⟩ := (X.later hb1).six
    go_wp2_with fail
    go_ret
    exact ⟨ret_bool HE.out.symm, below_step hb0 hb1⟩
  · have HE : Hid (actB 1 t = decide (t ≤ 7)) := by unfold Hid actB; rw [if_neg (by decide), if_pos rfl, Bool.eq_iff_iff]; simp; omega
    go_enter Try.func31, Try.ntmps31
    go_wp2_with fail
    refine (c1 _).mono ?_
    rintro e w1 ⟨rfl, hb1⟩
    obtain ⟨y0, y1, y2, y3, y4, y5⟩ := (X.later hb1).six
    go_wp2_with fail
    go_ret
    exact ⟨ret_bool HE.out.symm, below_step hb0 hb1⟩
end Go.Proofs.Ytnmijgnflemhkaa
