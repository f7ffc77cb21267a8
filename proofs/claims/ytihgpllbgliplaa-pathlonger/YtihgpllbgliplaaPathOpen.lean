/- A packet at a switch's port that came in as an argument, opened. -/
import Derived.Test.YtihgpllbgliplaaPathMath
import Derived.Test.YtihgpllbgliplaaRds
import Derived.Lib.SmallJoins
import Derived.Deep.Strs
namespace Go.Proofs.Ytihgpllbgliplaa
open Go.ChangeShapes Go.WideShapes Go.ChangeAt Go.RowKit
set_option linter.unusedVariables false
set_option linter.unusedSimpArgs false

theorem cInt13 : Try.prog.cellsOf 3 = 1 := by kernel_rfl
theorem cPacket13 : Try.prog.cellsOf 28 = 5 := by kernel_rfl
theorem cFly13 : Try.prog.cellsOf 30 = 7 := by kernel_rfl
section
variable {H : Type} {enc : TypeId × Value → H} {w : World} {base : Nat} {spare : Nat → Bool} {held : Bool}
theorem one_int13 {n : Nat} {c : Value} {x : DataW H × List MemPlace} (h : DataW.trod enc Try.prog w base spare held n 3 [c] = some x) : ∃ a : Int, c = .int .i64 a ∧ (Lit.int .i64 a).wf = true := by
  obtain ⟨a, e, _, hw⟩ := DataW.trod_int Try.underlying3 h
  exact ⟨a, by simpa using e, hw⟩
theorem array7 {α : Type} {cs : Array α} (h : cs.size = 7) : ∃ c0 c1 c2 c3 c4 c5 c6, cs = #[c0, c1, c2, c3, c4, c5, c6] := by
  obtain ⟨l⟩ := cs
  match l, h with
  | [c0, c1, c2, c3, c4, c5, c6], _ => exact ⟨c0, c1, c2, c3, c4, c5, c6, rfl⟩
theorem trod_struct5f {P : Program} {t : TypeId} {f0 f1 f2 f3 f4 : Field} {fuel : Nat} {cs : List Value} {x : DataW H × List MemPlace} (ht : P.underlying t = some (.struct #[f0, f1, f2, f3, f4])) (h : DataW.trod enc P w base spare held fuel t cs = some x) :
    ∃ y0 y1 y2 y3 y4 n, x = (.agg [y0.1, y1.1, y2.1, y3.1, y4.1], y0.2 ++ (y1.2 ++ (y2.2 ++ (y3.2 ++ y4.2)))) ∧ DataW.trod enc P w base spare held n f0.type ((cs.drop f0.offset).take (P.cellsOf f0.type)) = some y0 ∧
      DataW.trod enc P w base spare held n f1.type ((cs.drop f1.offset).take (P.cellsOf f1.type)) = some y1 ∧ DataW.trod enc P w base spare held n f2.type ((cs.drop f2.offset).take (P.cellsOf f2.type)) = some y2 ∧
      DataW.trod enc P w base spare held n f3.type ((cs.drop f3.offset).take (P.cellsOf f3.type)) = some y3 ∧ DataW.trod enc P w base spare held n f4.type ((cs.drop f4.offset).take (P.cellsOf f4.type)) = some y4 := by
  obtain ⟨xs, n, _, rfl, hl, hlen, hf⟩ := DataW.trod_struct ht h
  match xs, hlen with
  | [y0, y1, y2, y3, y4], _ => exact ⟨y0, y1, y2, y3, y4, n, by simp, by simpa using hf 0 f0 rfl, by simpa using hf 1 f1 rfl, by simpa using hf 2 f2 rfl, by simpa using hf 3 f3 rfl, by simpa using hf 4 f4 rfl⟩
set_option maxRecDepth 100000 in
theorem open_fly {r : Reach} {b0 : Nat} {u : Value} {d : DataW H} {q : List MemPlace} (hv : Value.okWide Try.prog w r b0 30 u) (h : DataW.Trod enc Try.prog w base spare held 30 u d q) :
    ∃ a b c t g s i : Int, u = .agg #[.int .i64 a, .int .i64 b, .int .i64 c, .int .i64 t, .int .i64 g, .int .i64 s, .int .i64 i] ∧ (Lit.int .i64 a).wf = true ∧ (Lit.int .i64 b).wf = true ∧ (Lit.int .i64 c).wf = true ∧ (Lit.int .i64 t).wf = true ∧ (Lit.int .i64 g).wf = true ∧ (Lit.int .i64 s).wf = true ∧ (Lit.int .i64 i).wf = true := by
  obtain ⟨cs, rfl, hsz⟩ := okWide_struct Try.underlying30 hv
  obtain ⟨c0, c1, c2, c3, c4, c5, c6, rfl⟩ := array7 (hsz.trans cFly13)
  obtain ⟨fuel, hf⟩ := h
  obtain ⟨y0, y1, y2, m, _, _, h0, h1, h2⟩ := Go.Deep.trod_struct3 Try.underlying30 hf
  simp only [Value.cells, cPacket13, cInt13] at h0 h1 h2
  obtain ⟨z0, z1, z2, z3, z4, m0, _, g0, g1, g2, g3, g4⟩ := trod_struct5f Try.underlying28 h0
  simp only [cInt13] at g0 g1 g2 g3 g4
  obtain ⟨a, rfl, wa⟩ := one_int13 (by simpa using g0)
  obtain ⟨b, rfl, wb⟩ := one_int13 (by simpa using g1)
  obtain ⟨c, rfl, wc⟩ := one_int13 (by simpa using g2)
  obtain ⟨t, rfl, wt⟩ := one_int13 (by simpa using g3)
  obtain ⟨g, rfl, wg⟩ := one_int13 (by simpa using g4)
  obtain ⟨s, rfl, ws⟩ := one_int13 (by simpa using h1)
  obtain ⟨i, rfl, wi⟩ := one_int13 (by simpa using h2)
  exact ⟨a, b, c, t, g, s, i, rfl, wa, wb, wc, wt, wg, ws, wi⟩
end
end Go.Proofs.Ytihgpllbgliplaa
