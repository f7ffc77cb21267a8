/- A topology that came in as an argument, opened. -/
import Derived.Test.YtihgpllbgliplaaTopMath
import Derived.Test.YtihgpllbgliplaaRds
import Derived.Lib.SmallJoins
import Derived.Deep.Strs
namespace Go.Proofs.Ytihgpllbgliplaa
open Go.ChangeShapes Go.WideShapes Go.ChangeAt Go.RowKit Tp
set_option linter.unusedVariables false
set_option linter.unusedSimpArgs false

theorem cInt11o : Try.prog.cellsOf 3 = 1 := by kernel_rfl
theorem cSl11 : Try.prog.cellsOf 22 = 1 := by kernel_rfl
theorem cTopo11 : Try.prog.cellsOf 24 = 3 := by kernel_rfl
section
variable {H : Type} {enc : TypeId × Value → H} {w : World} {base : Nat} {spare : Nat → Bool} {held : Bool}
theorem one_int11 {n : Nat} {c : Value} {x : DataW H × List MemPlace} (h : DataW.trod enc Try.prog w base spare held n 3 [c] = some x) : ∃ a : Int, c = .int .i64 a ∧ (Lit.int .i64 a).wf = true := by
  obtain ⟨a, e, _, hw⟩ := DataW.trod_int Try.underlying3 h
  exact ⟨a, by simpa using e, hw⟩
theorem elemK (n : Nat) (cs : List Value) (y : DataW H × List MemPlace) (hl : cs.length = 4) (h : DataW.trod enc Try.prog w base spare held n 71 cs = some y) : ∃ x : Lk, cs = (fK x).map (Value.int .i64) ∧ ∀ z ∈ fK x, (Lit.int .i64 z).wf = true := by
  match cs, hl with
  | [c0, c1, c2, c3], _ =>
    obtain ⟨y0, y1, y2, y3, m, _, _, h0, h1, h2, h3⟩ := Go.Joins.trod_struct4 Try.underlying71 h
    simp only [cInt11o] at h0 h1 h2 h3
    obtain ⟨a, rfl, wa⟩ := one_int11 (by simpa using h0)
    obtain ⟨p, rfl, wp⟩ := one_int11 (by simpa using h1)
    obtain ⟨b, rfl, wb⟩ := one_int11 (by simpa using h2)
    obtain ⟨q, rfl, wq⟩ := one_int11 (by simpa using h3)
    refine ⟨⟨a, p, b, q⟩, rfl, fun z hz => ?_⟩
    simp only [fK, List.mem_cons, List.not_mem_nil, or_false] at hz
    rcases hz with rfl | rfl | rfl | rfl <;> assumption
theorem array3 {α : Type} {cs : Array α} (h : cs.size = 3) : ∃ c0 c1 c2, cs = #[c0, c1, c2] := by
  obtain ⟨l⟩ := cs
  match l, h with
  | [c0, c1, c2], _ => exact ⟨c0, c1, c2, rfl⟩
set_option maxRecDepth 100000 in
theorem open_topo (hs : ∀ b, spare b = true) {r : Reach} {b0 : Nat} {u : Value} {d : DataW H} {q : List MemPlace} (hv : Value.okWide Try.prog w r b0 24 u) (h : DataW.Trod enc Try.prog w base spare true 24 u d q) :
    ∃ (s n : Int) (x : Option Addr) (c : Nat) (l : List Lk), u = .agg #[.int .i64 s, .int .i64 n, .slice x l.length c] ∧ (Lit.int .i64 s).wf = true ∧ (Lit.int .i64 n).wf = true ∧ Rds fK 4 w x c l := by
  obtain ⟨cs, rfl, hsz⟩ := okWide_struct Try.underlying24 hv
  obtain ⟨c0, c1, c2, rfl⟩ := array3 (hsz.trans cTopo11)
  obtain ⟨fuel, hf⟩ := h
  obtain ⟨y0, y1, y2, m, _, _, h0, h1, h2⟩ := Go.Deep.trod_struct3 Try.underlying24 hf
  simp only [cInt11o, cSl11] at h0 h1 h2
  obtain ⟨s, rfl, ws⟩ := one_int11 (by simpa [Value.cells] using h0)
  obtain ⟨n, rfl, wn⟩ := one_int11 (by simpa [Value.cells] using h1)
  have g2 : DataW.trod enc Try.prog w base spare true m 22 [c2] = some y2 := by simpa [Value.cells] using h2
  have hsl : ∃ x k c, c2 = .slice x k c := by
    rcases Go.Deep.open_slice Try.underlying22 g2 with ⟨h0, _⟩ | ⟨x, len, cap, m, n, D, Pl, hcs, _⟩
    · simp only [List.cons.injEq, and_true] at h0
      exact ⟨_, _, _, h0⟩
    · simp only [List.cons.injEq, and_true] at hcs
      exact ⟨_, _, _, hcs⟩
  obtain ⟨x, k, c, rfl⟩ := hsl
  obtain ⟨l, rfl, R⟩ := rds_of_trod Try.underlying22 (by kernel_rfl) hs (by decide) fK_len elemK g2
  exact ⟨s, n, x, c, l, rfl, ws, wn, R⟩
end
end Go.Proofs.Ytihgpllbgliplaa
