/- Slices of rules, and a rule, that came in as arguments, opened. -/
import Derived.Test.YtbjgnlednkegiaaPickAwake
import Derived.Lib.SmallJoins
import Derived.Deep.Strs
namespace Go.Proofs.Ytbjgnlednkegiaa
open Go.ChangeShapes Go.WideShapes Go.ChangeAt Go.RowKit Pk
set_option linter.unusedVariables false
set_option linter.unusedSimpArgs false

theorem cInt8 : Try.prog.cellsOf 3 = 1 := by kernel_rfl
theorem cPrefix8 : Try.prog.cellsOf 30 = 2 := by kernel_rfl
theorem cAction8 : Try.prog.cellsOf 32 = 2 := by kernel_rfl
theorem cRule8 : Try.prog.cellsOf 34 = 6 := by kernel_rfl
section
variable {H : Type} {enc : TypeId × Value → H} {w : World} {base : Nat} {spare : Nat → Bool} {held : Bool}
theorem one_int8 {n : Nat} {c : Value} {x : DataW H × List MemPlace} (h : DataW.trod enc Try.prog w base spare held n 3 [c] = some x) : ∃ a : Int, c = .int .i64 a ∧ (Lit.int .i64 a).wf = true := by
  obtain ⟨a, e, _, hw⟩ := DataW.trod_int Try.underlying3 h
  exact ⟨a, by simpa using e, hw⟩
theorem elemR (n : Nat) (cs : List Value) (y : DataW H × List MemPlace) (hl : cs.length = 6) (h : DataW.trod enc Try.prog w base spare held n 34 cs = some y) : ∃ x : Rl, cs = (fR x).map (Value.int .i64) ∧ ∀ z ∈ fR x, (Lit.int .i64 z).wf = true := by
  match cs, hl with
  | [c0, c1, c2, c3, c4, c5], _ =>
    obtain ⟨y0, y1, y2, y3, m, _, _, h0, h1, h2, h3⟩ := Go.Joins.trod_struct4 Try.underlying34 h
    simp only [cPrefix8, cAction8, cInt8] at h0 h1 h2 h3
    obtain ⟨z0, z1, m0, _, _, g0, g1⟩ := trod_struct2 Try.underlying30 h0
    obtain ⟨z4, z5, m4, _, _, g4, g5⟩ := trod_struct2 Try.underlying32 h3
    simp only [cInt8] at g0 g1 g4 g5
    obtain ⟨a, rfl, wa⟩ := one_int8 (by simpa using g0)
    obtain ⟨k, rfl, wn⟩ := one_int8 (by simpa using g1)
    obtain ⟨i, rfl, wi⟩ := one_int8 (by simpa using h1)
    obtain ⟨q, rfl, wq⟩ := one_int8 (by simpa using h2)
    obtain ⟨e, rfl, wk⟩ := one_int8 (by simpa using g4)
    obtain ⟨t, rfl, wt⟩ := one_int8 (by simpa using g5)
    refine ⟨⟨a, k, i, q, e, t⟩, rfl, fun z hz => ?_⟩
    simp only [fR, List.mem_cons, List.not_mem_nil, or_false] at hz
    rcases hz with rfl | rfl | rfl | rfl | rfl | rfl <;> assumption
theorem array6 {α : Type} {cs : Array α} (h : cs.size = 6) : ∃ c0 c1 c2 c3 c4 c5, cs = #[c0, c1, c2, c3, c4, c5] := by
  obtain ⟨l⟩ := cs
  match l, h with
  | [c0, c1, c2, c3, c4, c5], _ => exact ⟨c0, c1, c2, c3, c4, c5, rfl⟩
theorem open_rule {r : Reach} {b0 : Nat} {u : Value} {d : DataW H} {q : List MemPlace} (hv : Value.okWide Try.prog w r b0 34 u) (h : DataW.Trod enc Try.prog w base spare held 34 u d q) :
    ∃ a n i q k t : Int, u = .agg #[.int .i64 a, .int .i64 n, .int .i64 i, .int .i64 q, .int .i64 k, .int .i64 t] ∧ (Lit.int .i64 a).wf = true ∧ (Lit.int .i64 n).wf = true ∧ (Lit.int .i64 i).wf = true ∧ (Lit.int .i64 q).wf = true ∧ (Lit.int .i64 k).wf = true ∧ (Lit.int .i64 t).wf = true := by
  obtain ⟨cs, rfl, hsz⟩ := okWide_struct Try.underlying34 hv
  obtain ⟨c0, c1, c2, c3, c4, c5, rfl⟩ := array6 (hsz.trans cRule8)
  obtain ⟨fuel, hf⟩ := h
  obtain ⟨⟨a, n, i, q, k, t⟩, e, hw⟩ := elemR fuel [c0, c1, c2, c3, c4, c5] _ rfl (by simpa [Value.cells] using hf)
  simp only [fR, List.map_cons, List.map_nil, List.cons.injEq, and_true] at e
  obtain ⟨rfl, rfl, rfl, rfl, rfl, rfl⟩ := e
  exact ⟨a, n, i, q, k, t, rfl, hw _ (by simp [fR]), hw _ (by simp [fR]), hw _ (by simp [fR]), hw _ (by simp [fR]), hw _ (by simp [fR]), hw _ (by simp [fR])⟩
end
end Go.Proofs.Ytbjgnlednkegiaa
