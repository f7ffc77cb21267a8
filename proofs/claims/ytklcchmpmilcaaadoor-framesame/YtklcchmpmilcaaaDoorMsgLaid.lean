/- From 'the table reads as the program's text lays it' to its cells in memory; a message that came in as an argument, opened: what the claims on package msg begin with. -/
import Derived.Test.YtklcchmpmilcaaaDoorMsgWalks
import Derived.Test.YtklcchmpmilcaaaDoorRuleOpen
import Derived.LaidMore
import Derived.LaidLaws
import Derived.Lib.SmallJoins
import Derived.Stop.Joined
namespace Go.Proofs.YtklcchmpmilcaaaDoor
open Go.ChangeShapes Go.WideShapes Go.ChangeAt Go.RowKit R Q
set_option linter.unusedVariables false
set_option linter.unusedSimpArgs false

theorem own : ownKnob Tryd.prog.godebug = none := by kernel_rfl
theorem laidOut : laidOutB Tryd.prog = true := by kernel_rfl
theorem gRows : Tryd.prog.globalNamed "wayfinder/msg.rows" = some 0 := by kernel_rfl
theorem tRows : (Tryd.prog.globals[0]?).map (·.type) = some 59 := by kernel_rfl
theorem cRow : Tryd.prog.cellsOf 58 = 7 := by kernel_rfl
theorem cSpan : Tryd.prog.cellsOf 56 = 2 := by kernel_rfl
theorem cBool : Tryd.prog.cellsOf 4 = 1 := by kernel_rfl
theorem cMsg : Tryd.prog.cellsOf 29 = 10 := by kernel_rfl

/-- The door's own heap meets the condition: three closed facts. -/
theorem door_met (os : Os) (args : Array Value) : laidMetH Tryd.prog [("wayfinder/msg.rows", Rows.laid_wayfinder_msg_rows)] ((World.doorLaid Tryd.prog 400 os).forCall (fun _ _ => 0) ⟨#[], args, []⟩).memory :=
  laidMetH_of_parts3 (fuel := 8) (laidMet_of_run' 8 (by kernel_rfl) (by kernel_rfl)) (by kernel_rfl) (by kernel_rfl)

section
variable {H : Type} {enc : TypeId × Value → H} {w : World} {base : Nat} {spare : Nat → Bool} {held : Bool}
theorem span_at {m : Nat} {cs : List Value} {x : DataW H × List MemPlace} {p q : Int} (h : DataW.trod enc Tryd.prog w base spare held m 56 cs = some x)
    (hx : x.1 = .agg [.lit (.int .i64 p), .lit (.int .i64 q)]) : cs[0]? = some (.int .i64 p) ∧ cs[1]? = some (.int .i64 q) := by
  obtain ⟨y0, y1, n, rfl, _, h0, h1⟩ := trod_struct2 Tryd.underlying56 h
  obtain ⟨n0, e0, f0, _⟩ := DataW.trod_int Tryd.underlying3 h0
  obtain ⟨n1, e1, f1, _⟩ := DataW.trod_int Tryd.underlying3 h1
  subst f0 f1
  simp only [DataW.agg.injEq, List.cons.injEq, DataW.lit.injEq, Lit.int.injEq, true_and, and_true] at hx
  obtain ⟨rfl, rfl⟩ := hx
  have g0 := congrArg (fun l : List Value => l[0]?) e0
  have g1 := congrArg (fun l : List Value => l[0]?) e1
  simp only [cInt, List.getElem?_take, List.getElem?_drop] at g0 g1
  constructor
  · simpa using g0
  · simpa using g1
theorem row_at {m i : Nat} {cs : List Value} {x : DataW H × List MemPlace} {l m1 l2 m2 l3 m3 : Int} {r : Bool} (h : DataW.trod enc Tryd.prog w base spare held m 58 ((cs.drop (i * 7)).take 7) = some x)
    (hx : x.1 = .agg [.agg [.lit (.int .i64 l), .lit (.int .i64 m1)], .agg [.lit (.int .i64 l2), .lit (.int .i64 m2)], .agg [.lit (.int .i64 l3), .lit (.int .i64 m3)], .lit (.bool r)]) :
    cs[i * 7]? = some (.int .i64 l) ∧ cs[i * 7 + 1]? = some (.int .i64 m1) ∧ cs[i * 7 + 2]? = some (.int .i64 l2) ∧ cs[i * 7 + 3]? = some (.int .i64 m2) ∧ cs[i * 7 + 4]? = some (.int .i64 l3) ∧ cs[i * 7 + 5]? = some (.int .i64 m3) ∧ cs[i * 7 + 6]? = some (.bool r) := by
  obtain ⟨y0, y1, y2, y3, n, rfl, _, h0, h1, h2, h3⟩ := Go.Joins.trod_struct4 Tryd.underlying58 h
  obtain ⟨b, eb, fb⟩ := DataW.trod_bool Tryd.underlying4 h3
  subst fb
  simp only [DataW.agg.injEq, List.cons.injEq, DataW.lit.injEq, Lit.bool.injEq, and_true] at hx
  obtain ⟨x0, x1, x2, rfl⟩ := hx
  obtain ⟨a0, a1⟩ := span_at h0 x0
  obtain ⟨a2, a3⟩ := span_at h1 x1
  obtain ⟨a4, a5⟩ := span_at h2 x2
  have a6 := congrArg (fun l : List Value => l[0]?) eb
  simp only [cSpan, cBool, List.getElem?_take, List.getElem?_drop] at a0 a1 a2 a3 a4 a5 a6
  exact ⟨by simpa using a0, by simpa using a1, by simpa using a2, by simpa using a3, by simpa using a4, by simpa using a5, by simpa using a6⟩
end

/-- WHAT THE CONDITION GIVES THE WALKS: the table's cells. -/
theorem tab_of_laid {W : World} (h : laidMetH Tryd.prog [("wayfinder/msg.rows", Rows.laid_wayfinder_msg_rows)] W) : Tab W := by
  rw [MakeChecks.laidMetH_plain _ _ _ (by kernel_rfl)] at h
  obtain ⟨ps, ⟨g0, t0, cs0, f0, p0, q0, hg0, ht0, hv0, hd0, _, _⟩, _, _⟩ := h
  obtain rfl := Option.some.inj (gRows.symm.trans hg0)
  obtain rfl := Option.some.inj (tRows.symm.trans ht0)
  obtain ⟨xs, m1, rfl, hx1, hlen, hn, hel⟩ := DataW.trod_array Tryd.underlying59 hd0
  rw [cRow] at hel
  have key : ∀ j, W.cell? ⟨0, j, none⟩ = cs0.toList[j]? := fun j => by rw [World.var?_cell hg0 hv0 j]; simp
  simp only [Prod.mk.injEq, Rows.laid_wayfinder_msg_rows, DataW.agg.injEq] at hx1
  match xs, hn, hx1, hel with
  | [x0, x1, x2, x3, x4, x5], _, hx1, hel =>
    simp only [List.map_cons, List.map_nil, List.cons.injEq, and_true] at hx1
    obtain ⟨⟨a0, a1, a2, a3, a4, a5⟩, _⟩ := hx1
    obtain ⟨c00, c01, c02, c03, c04, c05, c06⟩ := row_at (hel 0 (by decide)) a0.symm
    obtain ⟨c10, c11, c12, c13, c14, c15, c16⟩ := row_at (hel 1 (by decide)) a1.symm
    obtain ⟨c20, c21, c22, c23, c24, c25, c26⟩ := row_at (hel 2 (by decide)) a2.symm
    obtain ⟨c30, c31, c32, c33, c34, c35, c36⟩ := row_at (hel 3 (by decide)) a3.symm
    obtain ⟨c40, c41, c42, c43, c44, c45, c46⟩ := row_at (hel 4 (by decide)) a4.symm
    obtain ⟨c50, c51, c52, c53, c54, c55, c56⟩ := row_at (hel 5 (by decide)) a5.symm
    refine ⟨World.block_lt_of_cell? W _ ((key 0).trans c00), fun j x hx => ?_⟩
    rw [key j]
    have hj : j < 42 := by
      rcases Nat.lt_or_ge j 42 with h1 | h1
      · exact h1
      · rw [List.getElem?_eq_none (by simpa using h1)] at hx; cases hx
    match j, hj, hx with
    | 0, _, hx => exact c00.trans hx
    | 1, _, hx => exact c01.trans hx
    | 2, _, hx => exact c02.trans hx
    | 3, _, hx => exact c03.trans hx
    | 4, _, hx => exact c04.trans hx
    | 5, _, hx => exact c05.trans hx
    | 6, _, hx => exact c06.trans hx
    | 7, _, hx => exact c10.trans hx
    | 8, _, hx => exact c11.trans hx
    | 9, _, hx => exact c12.trans hx
    | 10, _, hx => exact c13.trans hx
    | 11, _, hx => exact c14.trans hx
    | 12, _, hx => exact c15.trans hx
    | 13, _, hx => exact c16.trans hx
    | 14, _, hx => exact c20.trans hx
    | 15, _, hx => exact c21.trans hx
    | 16, _, hx => exact c22.trans hx
    | 17, _, hx => exact c23.trans hx
    | 18, _, hx => exact c24.trans hx
    | 19, _, hx => exact c25.trans hx
    | 20, _, hx => exact c26.trans hx
    | 21, _, hx => exact c30.trans hx
    | 22, _, hx => exact c31.trans hx
    | 23, _, hx => exact c32.trans hx
    | 24, _, hx => exact c33.trans hx
    | 25, _, hx => exact c34.trans hx
    | 26, _, hx => exact c35.trans hx
    | 27, _, hx => exact c36.trans hx
    | 28, _, hx => exact c40.trans hx
    | 29, _, hx => exact c41.trans hx
    | 30, _, hx => exact c42.trans hx
    | 31, _, hx => exact c43.trans hx
    | 32, _, hx => exact c44.trans hx
    | 33, _, hx => exact c45.trans hx
    | 34, _, hx => exact c46.trans hx
    | 35, _, hx => exact c50.trans hx
    | 36, _, hx => exact c51.trans hx
    | 37, _, hx => exact c52.trans hx
    | 38, _, hx => exact c53.trans hx
    | 39, _, hx => exact c54.trans hx
    | 40, _, hx => exact c55.trans hx
    | 41, _, hx => exact c56.trans hx

/-! ### a message, opened -/
section
variable {H : Type} {enc : TypeId × Value → H} {w : World} {base : Nat} {spare : Nat → Bool} {held : Bool}
theorem array10 {α : Type} {cs : Array α} (h : cs.size = 10) : ∃ c0 c1 c2 c3 c4 c5 c6 c7 c8 c9, cs = #[c0, c1, c2, c3, c4, c5, c6, c7, c8, c9] := by
  obtain ⟨l⟩ := cs
  match l, h with
  | [c0, c1, c2, c3, c4, c5, c6, c7, c8, c9], _ => exact ⟨c0, c1, c2, c3, c4, c5, c6, c7, c8, c9, rfl⟩
theorem trod_struct5 {P : Program} {t : TypeId} {f0 f1 f2 f3 f4 : Field} {fuel : Nat} {cs : List Value} {x : DataW H × List MemPlace} (ht : P.underlying t = some (.struct #[f0, f1, f2, f3, f4])) (h : DataW.trod enc P w base spare held fuel t cs = some x) :
    ∃ y0 y1 y2 y3 y4 n, x = (.agg [y0.1, y1.1, y2.1, y3.1, y4.1], y0.2 ++ (y1.2 ++ (y2.2 ++ (y3.2 ++ y4.2)))) ∧ DataW.trod enc P w base spare held n f0.type ((cs.drop f0.offset).take (P.cellsOf f0.type)) = some y0 ∧
      DataW.trod enc P w base spare held n f1.type ((cs.drop f1.offset).take (P.cellsOf f1.type)) = some y1 ∧ DataW.trod enc P w base spare held n f2.type ((cs.drop f2.offset).take (P.cellsOf f2.type)) = some y2 ∧
      DataW.trod enc P w base spare held n f3.type ((cs.drop f3.offset).take (P.cellsOf f3.type)) = some y3 ∧ DataW.trod enc P w base spare held n f4.type ((cs.drop f4.offset).take (P.cellsOf f4.type)) = some y4 := by
  obtain ⟨xs, n, _, rfl, hl, hlen, hf⟩ := DataW.trod_struct ht h
  match xs, hlen with
  | [y0, y1, y2, y3, y4], _ => exact ⟨y0, y1, y2, y3, y4, n, by simp, by simpa using hf 0 f0 rfl, by simpa using hf 1 f1 rfl, by simpa using hf 2 f2 rfl, by simpa using hf 3 f3 rfl, by simpa using hf 4 f4 rfl⟩
theorem rule_cells {n : Nat} {c0 c1 c2 c3 c4 c5 : Value} {x : DataW H × List MemPlace} (h : DataW.trod enc Tryd.prog w base spare held n 27 [c0, c1, c2, c3, c4, c5] = some x) :
    ∃ a n i p k t : Int, c0 = .int .i64 a ∧ c1 = .int .i64 n ∧ c2 = .int .i64 i ∧ c3 = .int .i64 p ∧ c4 = .int .i64 k ∧ c5 = .int .i64 t ∧ (Lit.int .i64 a).wf = true ∧ (Lit.int .i64 n).wf = true ∧ (Lit.int .i64 i).wf = true ∧ (Lit.int .i64 p).wf = true ∧ (Lit.int .i64 k).wf = true ∧ (Lit.int .i64 t).wf = true := by
  obtain ⟨y0, y1, y2, y3, m, _, _, h0, h1, h2, h3⟩ := Go.Joins.trod_struct4 Tryd.underlying27 h
  simp only [cPrefix, cAction, cInt] at h0 h1 h2 h3
  obtain ⟨z0, z1, m0, _, _, g0, g1⟩ := trod_struct2 Tryd.underlying23 h0
  obtain ⟨z4, z5, m4, _, _, g4, g5⟩ := trod_struct2 Tryd.underlying25 h3
  simp only [cInt] at g0 g1 g4 g5
  obtain ⟨a, rfl, wa⟩ := one_int (by simpa using g0)
  obtain ⟨n, rfl, wn⟩ := one_int (by simpa using g1)
  obtain ⟨i, rfl, wi⟩ := one_int (by simpa using h1)
  obtain ⟨p, rfl, wp⟩ := one_int (by simpa using h2)
  obtain ⟨k, rfl, wk⟩ := one_int (by simpa using g4)
  obtain ⟨t, rfl, wt⟩ := one_int (by simpa using g5)
  exact ⟨a, n, i, p, k, t, rfl, rfl, rfl, rfl, rfl, rfl, wa, wn, wi, wp, wk, wt⟩
theorem open_msg {r : Reach} {b0 : Nat} {u : Value} {d : DataW H} {q : List MemPlace} (hv : Value.okWide Tryd.prog w r b0 29 u) (h : DataW.Trod enc Tryd.prog w base spare held 29 u d q) :
    ∃ y z v g a n i p k t : Int, u = .agg #[.int .i64 y, .int .i64 z, .int .i64 v, .int .i64 g, .int .i64 a, .int .i64 n, .int .i64 i, .int .i64 p, .int .i64 k, .int .i64 t] ∧ (Lit.int .i64 y).wf = true ∧ (Lit.int .i64 z).wf = true ∧ (Lit.int .i64 v).wf = true ∧ (Lit.int .i64 g).wf = true ∧ (Lit.int .i64 a).wf = true ∧ (Lit.int .i64 n).wf = true ∧ (Lit.int .i64 i).wf = true ∧ (Lit.int .i64 p).wf = true ∧ (Lit.int .i64 k).wf = true ∧ (Lit.int .i64 t).wf = true := by
  obtain ⟨cs, rfl, hsz⟩ := okWide_struct Tryd.underlying29 hv
  obtain ⟨c0, c1, c2, c3, c4, c5, c6, c7, c8, c9, rfl⟩ := array10 (hsz.trans cMsg)
  obtain ⟨fuel, hf⟩ := h
  obtain ⟨y0, y1, y2, y3, y4, m, _, h0, h1, h2, h3, h4⟩ := trod_struct5 Tryd.underlying29 hf
  simp only [Value.cells, cRule, cInt] at h0 h1 h2 h3 h4
  obtain ⟨y, rfl, wy⟩ := one_int (by simpa using h0)
  obtain ⟨z, rfl, wz⟩ := one_int (by simpa using h1)
  obtain ⟨v, rfl, wv⟩ := one_int (by simpa using h2)
  obtain ⟨g, rfl, wg⟩ := one_int (by simpa using h3)
  obtain ⟨a, n, i, p, k, t, rfl, rfl, rfl, rfl, rfl, rfl, wa, wn, wi, wp, wk, wt⟩ := rule_cells (by simpa using h4)
  exact ⟨y, z, v, g, a, n, i, p, k, t, rfl, wy, wz, wv, wg, wa, wn, wi, wp, wk, wt⟩
end
end Go.Proofs.YtklcchmpmilcaaaDoor
