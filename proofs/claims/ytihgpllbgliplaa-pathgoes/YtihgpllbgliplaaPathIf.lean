/- What the statements on package path ask of its functions, as one structure: whatever the code is, it is to be shown of it. And that the chapter's example holds. -/
import Derived.Test.YtihgpllbgliplaaPathWf
import Derived.Test.YtihgpllbgliplaaPathTwo
namespace Go.Proofs.Ytihgpllbgliplaa
open Go.ChangeShapes Go.WideShapes Go.ChangeAt Go.RowKit Pk Cf Pa
set_option linter.unusedVariables false
set_option linter.unusedSimpArgs false

abbrev vF (f : Fl) : Value := .agg #[.int .i64 f.id, .int .i64 f.src, .int .i64 f.dst, .int .i64 f.ttl, .int .i64 f.tag, .int .i64 f.sw, .int .i64 f.i]
abbrev vH (h : Hp) : Value := .agg #[.int .i64 h.tick, .int .i64 h.id, .int .i64 h.sw, .int .i64 h.i, .int .i64 h.tag, .int .i64 h.what, .int .i64 h.out]
structure PCode : Prop where
  step : ∀ (s n : Int) {x a : Option Addr} {c k : Nat} {l : List Tp.Lk} {C : Cnf} (w : World), Rds Tp.fK 4 w x c l → Lists w a k C → l.length ≤ 60 → (∀ r ∈ C, r.length ≤ 60) → ∀ f : Fl, WfF f →
    Calls Try.prog 12 #[.agg #[.int .i64 s, .int .i64 n, .slice x l.length c], .slice a C.length k, vF f] w fun e w' => e = .returned (.tuple #[vH (stepP s n l C f).1, vF (stepP s n l C f).2]) ∧ Below w.heap.size w w'
  walk : ∀ (s n : Int) {x a : Option Addr} {c k : Nat} {l : List Tp.Lk} {C : Cnf} (w : World), Rds Tp.fK 4 w x c l → Lists w a k C → l.length ≤ 60 → (∀ r ∈ C, r.length ≤ 60) → ∀ f : Fl, WfF f →
    Calls Try.prog 15 #[.agg #[.int .i64 s, .int .i64 n, .slice x l.length c], .slice a C.length k, vF f] w fun e w' => ∃ u, e = .returned u ∧ w'.ownsRow w.heap.size 34 7 u (walkP s n l C f).length (flatV fH (walkP s n l C f)) ∧ Below w.heap.size w w'
theorem Lies.seven {w : World} {B : Nat} {x0 x1 x2 x3 x4 x5 x6 : Int} (X : Lies w B [x0, x1, x2, x3, x4, x5, x6]) :
    w.cell? ⟨B, 0, none⟩ = some (.int .i64 x0) ∧ w.cell? ⟨B, 1, none⟩ = some (.int .i64 x1) ∧ w.cell? ⟨B, 2, none⟩ = some (.int .i64 x2) ∧ w.cell? ⟨B, 3, none⟩ = some (.int .i64 x3) ∧ w.cell? ⟨B, 4, none⟩ = some (.int .i64 x4) ∧ w.cell? ⟨B, 5, none⟩ = some (.int .i64 x5) ∧ w.cell? ⟨B, 6, none⟩ = some (.int .i64 x6) :=
  ⟨X.cells 0 _ rfl, X.cells 1 _ rfl, X.cells 2 _ rfl, X.cells 3 _ rfl, X.cells 4 _ rfl, X.cells 5 _ rfl, X.cells 6 _ rfl⟩
theorem Lies.set1 {w : World} {B : Nat} {l : List Int} (X : Lies w B l) {j : Nat} (hj : j < l.length) (v : Int) : Lies (w.setCell ⟨B, j, none⟩ (.int .i64 v)) B (l.set j v) := by
  refine ⟨by rw [World.size_setCell]; exact X.lt, fun i z hz => ?_, fun i => by rw [World.frozen?_setCell]; exact X.fz i⟩
  by_cases e : i = j
  · subst e
    rw [List.getElem?_set_self hj] at hz
    cases hz
    exact World.cell?_setCell_same' _ _ _ (by rw [X.cells i _ (List.getElem?_eq_getElem hj)]; rfl)
  · rw [List.getElem?_set_ne (fun g => e g.symm)] at hz
    rw [World.cell?_setCell_other _ ⟨B, j, none⟩ ⟨B, i, none⟩ _ (by intro g; injection g with g1 g2; exact e g2.symm)]
    exact X.cells i z hz
theorem Lies.far1 {w : World} {B b : Nat} {l : List Int} (X : Lies w B l) (h : B ≠ b) (j : Nat) (u : Value) : Lies (w.setCell ⟨b, j, none⟩ u) B l :=
  ⟨by rw [World.size_setCell]; exact X.lt, fun i z hz => by
    rw [World.cell?_setCell_other _ ⟨b, j, none⟩ ⟨B, i, none⟩ _ (by intro g; injection g with g1; exact h g1.symm)]
    exact X.cells i z hz, fun i => by rw [World.frozen?_setCell]; exact X.fz i⟩
def lay7 (w : World) (b : Nat) (y0 y1 y2 y3 y4 y5 y6 : Int) : World := ((((((w.setCell ⟨b, 0, none⟩ (.int .i64 y0)).setCell ⟨b, 1, none⟩ (.int .i64 y1)).setCell ⟨b, 2, none⟩ (.int .i64 y2)).setCell ⟨b, 3, none⟩ (.int .i64 y3)).setCell ⟨b, 4, none⟩ (.int .i64 y4)).setCell ⟨b, 5, none⟩ (.int .i64 y5)).setCell ⟨b, 6, none⟩ (.int .i64 y6)
theorem Lies.put7 {w : World} {B : Nat} {x0 x1 x2 x3 x4 x5 x6 : Int} (X : Lies w B [x0, x1, x2, x3, x4, x5, x6]) (y0 y1 y2 y3 y4 y5 y6 : Int) : Lies (lay7 w B y0 y1 y2 y3 y4 y5 y6) B [y0, y1, y2, y3, y4, y5, y6] :=
  ((((((X.set1 (j := 0) (by simp) y0).set1 (j := 1) (by simp) y1).set1 (j := 2) (by simp) y2).set1 (j := 3) (by simp) y3).set1 (j := 4) (by simp) y4).set1 (j := 5) (by simp) y5).set1 (j := 6) (by simp) y6
theorem Lies.far7 {w : World} {B b : Nat} {l : List Int} (X : Lies w B l) (h : B ≠ b) (y0 y1 y2 y3 y4 y5 y6 : Int) : Lies (lay7 w b y0 y1 y2 y3 y4 y5 y6) B l :=
  ((((((X.far1 h 0 _).far1 h 1 _).far1 h 2 _).far1 h 3 _).far1 h 4 _).far1 h 5 _).far1 h 6 _
theorem below_lay7 {B b : Nat} {w0 w : World} (hb : Below B w0 w) (hg : B ≤ b) (y0 y1 y2 y3 y4 y5 y6 : Int) : Below B w0 (lay7 w b y0 y1 y2 y3 y4 y5 y6) :=
  ((((((hb.setCell (p := ⟨b, 0, none⟩) hg _).setCell (p := ⟨b, 1, none⟩) hg _).setCell (p := ⟨b, 2, none⟩) hg _).setCell (p := ⟨b, 3, none⟩) hg _).setCell (p := ⟨b, 4, none⟩) hg _).setCell (p := ⟨b, 5, none⟩) hg _).setCell (p := ⟨b, 6, none⟩) hg _
def exF : Fl := ⟨7, 0, 0, 5, 0, 0, 0⟩
theorem exF_wf : WfF exF := wfF_of (by decide) (by decide) (by decide) (by decide) (by decide) (by decide) (by decide)
theorem exW : walkP 2 2 [lk2] [[exA], [exA]] exF = [⟨0, 7, 0, 0, 0, 0, 1⟩, ⟨0, 7, 1, 0, 0, 1, 1⟩] := by decide +kernel
set_option maxRecDepth 100000 in
set_option maxHeartbeats 4000000 in
theorem pawake_any (C : PCode) (w : World) : Calls Try.prog 10 #[] w fun e w' => e = .returned (.bool true) ∧ Below w.heap.size w w' := by
  have c1 : ∀ (u : World) {x a : Option Addr} {c k : Nat}, Rds Tp.fK 4 u x c [lk2] → Lists u a k [[exA], [exA]] → Calls Try.prog 15 #[.agg #[.int .i64 2, .int .i64 2, .slice x 1 c], .slice a 2 k, .agg #[.int .i64 7, .int .i64 0, .int .i64 0, .int .i64 5, .int .i64 0, .int .i64 0, .int .i64 0]] u fun e w' => ∃ y j, e = .returned (.slice y 2 j) ∧ Rds fH 7 w' y j [⟨0, 7, 0, 0, 0, 0, 1⟩, ⟨0, 7, 1, 0, 0, 1, 1⟩] ∧ Below u.heap.size u w' := fun u x a c k R V => by
    refine (C.walk 2 2 u R V (by decide) (by decide) exF exF_wf).mono ?_
    rintro e w' ⟨v, rfl, own, hb⟩
    have hw := walk_wf (s := 2) (n := 2) (l := [lk2]) (C := [[exA], [exA]]) (fun k hk => R.wf k hk) (lists_wf V) exF_wf
    obtain ⟨y, j, rfl, R2⟩ := rds_of_owns fH_len own rfl hw
    rw [exW] at R2 ⊢
    exact ⟨y, j, rfl, R2, hb⟩
  go_enter Try.func10, Try.ntmps10
  go_wp2_with fail
  refine (two_any w).mono ?_
  rintro e w1 ⟨x, a, c, k, rfl, R, V, hB⟩
  have hb := below_new w1 (.cells #[.int .i64 2, .int .i64 2, .slice x 1 c] 24)
  replace R := R.later hb
  replace V := V.later hb
  replace hB := below_step hB hb
  clear hb
  go_wp2_with fail
  refine (c1 _ R V).mono ?_
  rintro e w2 ⟨y, j, rfl, R2, hb⟩
  replace hB := below_step hB hb
  clear hb c1 R V
  obtain ⟨b, o, rfl, hl, h0⟩ := R2.at (i := 0) rfl
  obtain ⟨b', o', e, -, h1⟩ := R2.at (i := 1) rfl
  cases e
  have y0 := h0 0 _ rfl
  have y1 := h0 1 _ rfl
  have y2 := h0 2 _ rfl
  have y3 := h0 3 _ rfl
  have y4 := h0 4 _ rfl
  have y5 := h0 5 _ rfl
  have y6 := h0 6 _ rfl
  have z0 := h1 0 _ rfl
  have z1 := h1 1 _ rfl
  have z2 := h1 2 _ rfl
  have z3 := h1 3 _ rfl
  have z4 := h1 4 _ rfl
  have z5 := h1 5 _ rfl
  have z6 := h1 6 _ rfl
  simp only [Nat.zero_mul, Nat.one_mul, Nat.add_zero] at y0 y1 y2 y3 y4 y5 y6 z0 z1 z2 z3 z4 z5 z6
  clear h0 h1 R2
  go_wp2_with fail
  go_ret
  exact ⟨rfl, hB⟩
end Go.Proofs.Ytihgpllbgliplaa
