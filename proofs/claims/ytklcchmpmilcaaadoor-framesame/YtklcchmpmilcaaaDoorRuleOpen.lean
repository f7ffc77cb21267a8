/- A rule (a struct of a struct, two ints and a struct) and an action that came in as arguments, opened: what the claims on package rule begin with. -/
import Derived.Test.YtklcchmpmilcaaaDoorRulePut
import Derived.Lib.SmallJoins
namespace Go.Proofs.YtklcchmpmilcaaaDoor
open Go.ChangeShapes Go.WideShapes Go.ChangeAt Go.RowKit
set_option linter.unusedVariables false
set_option linter.unusedSimpArgs false

theorem cInt : Tryd.prog.cellsOf 3 = 1 := by kernel_rfl
theorem cPrefix : Tryd.prog.cellsOf 23 = 2 := by kernel_rfl
theorem cAction : Tryd.prog.cellsOf 25 = 2 := by kernel_rfl
theorem cRule : Tryd.prog.cellsOf 27 = 6 := by kernel_rfl
section
variable {H : Type} {enc : TypeId × Value → H} {w : World} {base : Nat} {spare : Nat → Bool} {held : Bool}
theorem array6 {α : Type} {cs : Array α} (h : cs.size = 6) : ∃ c0 c1 c2 c3 c4 c5, cs = #[c0, c1, c2, c3, c4, c5] := by
  obtain ⟨l⟩ := cs
  match l, h with
  | [c0, c1, c2, c3, c4, c5], _ => exact ⟨c0, c1, c2, c3, c4, c5, rfl⟩
theorem one_int {n : Nat} {c : Value} {x : DataW H × List MemPlace} (h : DataW.trod enc Tryd.prog w base spare held n 3 [c] = some x) : ∃ a : Int, c = .int .i64 a ∧ (Lit.int .i64 a).wf = true := by
  obtain ⟨a, e, _, hw⟩ := DataW.trod_int Tryd.underlying3 h
  exact ⟨a, by simpa using e, hw⟩
theorem open_rule {r : Reach} {b0 : Nat} {v : Value} {d : DataW H} {p : List MemPlace} (hv : Value.okWide Tryd.prog w r b0 27 v) (h : DataW.Trod enc Tryd.prog w base spare held 27 v d p) :
    ∃ a n i q k t : Int, v = .agg #[.int .i64 a, .int .i64 n, .int .i64 i, .int .i64 q, .int .i64 k, .int .i64 t] ∧ (Lit.int .i64 a).wf = true ∧ (Lit.int .i64 n).wf = true ∧ (Lit.int .i64 i).wf = true ∧ (Lit.int .i64 q).wf = true ∧ (Lit.int .i64 k).wf = true ∧ (Lit.int .i64 t).wf = true := by
  obtain ⟨cs, rfl, hsz⟩ := okWide_struct Tryd.underlying27 hv
  obtain ⟨c0, c1, c2, c3, c4, c5, rfl⟩ := array6 (hsz.trans cRule)
  obtain ⟨fuel, hf⟩ := h
  obtain ⟨y0, y1, y2, y3, m, _, _, h0, h1, h2, h3⟩ := Go.Joins.trod_struct4 Tryd.underlying27 hf
  simp only [Value.cells, cPrefix, cAction, cInt] at h0 h1 h2 h3
  obtain ⟨z0, z1, m0, _, _, g0, g1⟩ := trod_struct2 Tryd.underlying23 h0
  obtain ⟨z4, z5, m4, _, _, g4, g5⟩ := trod_struct2 Tryd.underlying25 h3
  simp only [cInt] at g0 g1 g4 g5
  obtain ⟨a, rfl, wa⟩ := one_int (by simpa using g0)
  obtain ⟨n, rfl, wn⟩ := one_int (by simpa using g1)
  obtain ⟨i, rfl, wi⟩ := one_int (by simpa using h1)
  obtain ⟨q, rfl, wq⟩ := one_int (by simpa using h2)
  obtain ⟨k, rfl, wk⟩ := one_int (by simpa using g4)
  obtain ⟨t, rfl, wt⟩ := one_int (by simpa using g5)
  exact ⟨a, n, i, q, k, t, rfl, wa, wn, wi, wq, wk, wt⟩
end
end Go.Proofs.YtklcchmpmilcaaaDoor
