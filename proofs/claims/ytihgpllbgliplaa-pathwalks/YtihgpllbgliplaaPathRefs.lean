/- What the document's Step answers, whatever the way. -/
import Derived.Test.YtihgpllbgliplaaPathStepR
namespace Go.Proofs.Ytihgpllbgliplaa
open Go.ChangeShapes Go.WideShapes Go.ChangeAt Go.RowKit Pk Cf Pa
set_option linter.unusedVariables false
set_option linter.unusedSimpArgs false

section
variable (s n : Int) (w : World) {x a : Option Addr} {c k : Nat} {l : List Tp.Lk} {C : Cnf}
set_option maxRecDepth 100000 in
set_option maxHeartbeats 4000000 in
theorem rstep_no (fi fs fd ft fg fw fp : Int) (ht : ft < 1) :
    Calls Try.prog 13 #[.agg #[.int .i64 s, .int .i64 n, .slice x l.length c], .slice a C.length k, .agg #[.int .i64 fi, .int .i64 fs, .int .i64 fd, .int .i64 ft, .int .i64 fg, .int .i64 fw, .int .i64 fp]] w fun e w' => e = .returned (.tuple #[.agg #[.int .i64 0, .int .i64 fi, .int .i64 fw, .int .i64 fp, .int .i64 fg, .int .i64 5, .int .i64 0], .agg #[.int .i64 0, .int .i64 0, .int .i64 0, .int .i64 0, .int .i64 0, .int .i64 0, .int .i64 0]]) ∧ Below w.heap.size w w' := by
  have h1 := below_new w (.cells #[.int .i64 s, .int .i64 n, .slice x l.length c] 24)
  go_enter Try.func13, Try.ntmps13
  go_wp2_with fail
  go_region
  all_goals go_wp2
  refine bodyPost_ret (v := .tuple #[.agg #[.int .i64 0, .int .i64 fi, .int .i64 fw, .int .i64 fp, .int .i64 fg, .int .i64 5, .int .i64 0], .agg #[.int .i64 0, .int .i64 0, .int .i64 0, .int .i64 0, .int .i64 0, .int .i64 0, .int .i64 0]]) (by simp [results, Try.results13, go_sem]) rfl ?_
  exact ⟨rfl, (below_step (below_step (below_step (below_step (below_step h1 (below_new _ _)) (below_new _ _)) (below_new _ _)) (below_new _ _)) (below_new _ _)).drew⟩
theorem rstep_any (RT : Rds Tp.fK 4 w x c l) (V : Lists w a k C) (hb60 : ∀ r ∈ C, r.length ≤ 60) (f : Fl) (hf : WfF f) :
    Calls Try.prog 13 #[.agg #[.int .i64 s, .int .i64 n, .slice x l.length c], .slice a C.length k, vF f] w fun e w' => e = .returned (.tuple #[vH (stepP s n l C f).1, vF (stepP s n l C f).2]) ∧ Below w.heap.size w w' := by
  obtain ⟨fi, fs, fd, ft, fg, fw, fp⟩ := f
  have hft := w64_iff.1 (hf ft (by simp [fF]))
  by_cases ht : ft < 1
  · rw [stepP_no ht]
    exact rstep_no s n w fi fs fd ft fg fw fp ht
  · rcases firstL_is fp fd (atC C fw) with ⟨e, -⟩ | ⟨q, hq, e, -, -⟩
    · rw [stepP_none ht e]
      exact rstep_none s n w fi fs fd ft fg fw fp ht e RT V hb60
    · rw [stepP_rule ht e]
      by_cases hk : ((atC C fw).getD q default).k = 1
      · obtain ⟨r, hr⟩ : ∃ r, (atC C fw).getD q default = r := ⟨_, rfl⟩
        rw [hr] at hk
        rw [show (atC C (⟨fi, fs, fd, ft, fg, fw, fp⟩ : Fl).sw).getD q default = r from hr]
        obtain ⟨ra, rn, ri, rp, rk, rt⟩ := r
        simp only at hk
        subst hk
        cases hfar : Tp.far s n l (fw, rt) with
        | none =>
          rw [doP_del rfl hfar]
          exact rstep_del s n w fi fs fd ft fg fw fp ht hq e ra rn ri rp rt hr hfar RT V hb60
        | some o =>
          obtain ⟨ex, ey⟩ := o
          rw [doP_went rfl hfar]
          exact rstep_went s n w fi fs fd ft fg fw fp ht hq e ra rn ri rp rt hr hft.2 ex ey hfar RT V hb60
      · rw [doP_by hk]
        exact rstep_by s n w fi fs fd ft fg fw fp ht hq e hk RT V hb60
end
end Go.Proofs.Ytihgpllbgliplaa
