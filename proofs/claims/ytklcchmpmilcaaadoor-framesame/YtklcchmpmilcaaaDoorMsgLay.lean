/- How cells that are laid anew leave what lies elsewhere: words for the walks through Get of package msg. -/
import Derived.Test.YtklcchmpmilcaaaDoorMsgWalks
namespace Go.Proofs.YtklcchmpmilcaaaDoor
open Go.ChangeShapes Go.WideShapes Go.ChangeAt Go.RowKit R Q
set_option linter.unusedVariables false
set_option linter.unusedSimpArgs false

/-- ten cells of a block of the call's own, laid anew -/
theorem below_lay10 {B b : Nat} {w0 w : World} (x0 x1 x2 x3 x4 x5 x6 x7 x8 x9 : Value) (hb : Below B w0 w) (hg : B ≤ b) : Below B w0 ((((((((((w.setCell ⟨b, 0, none⟩ x0).setCell ⟨b, 1, none⟩ x1).setCell ⟨b, 2, none⟩ x2).setCell ⟨b, 3, none⟩ x3).setCell ⟨b, 4, none⟩ x4).setCell ⟨b, 5, none⟩ x5).setCell ⟨b, 6, none⟩ x6).setCell ⟨b, 7, none⟩ x7).setCell ⟨b, 8, none⟩ x8).setCell ⟨b, 9, none⟩ x9) :=
  (((((((((hb.setCell (p := ⟨b, 0, none⟩) hg _).setCell (p := ⟨b, 1, none⟩) hg _).setCell (p := ⟨b, 2, none⟩) hg _).setCell (p := ⟨b, 3, none⟩) hg _).setCell (p := ⟨b, 4, none⟩) hg _).setCell (p := ⟨b, 5, none⟩) hg _).setCell (p := ⟨b, 6, none⟩) hg _).setCell (p := ⟨b, 7, none⟩) hg _).setCell (p := ⟨b, 8, none⟩) hg _).setCell (p := ⟨b, 9, none⟩) hg _
/-- the last six of ten -/
theorem below_put6 {B b : Nat} {w0 w : World} (x0 x1 x2 x3 x4 x5 : Value) (hb : Below B w0 w) (hg : B ≤ b) : Below B w0 ((((((w.setCell ⟨b, 4, none⟩ x0).setCell ⟨b, 5, none⟩ x1).setCell ⟨b, 6, none⟩ x2).setCell ⟨b, 7, none⟩ x3).setCell ⟨b, 8, none⟩ x4).setCell ⟨b, 9, none⟩ x5) :=
  (((((hb.setCell (p := ⟨b, 4, none⟩) hg _).setCell (p := ⟨b, 5, none⟩) hg _).setCell (p := ⟨b, 6, none⟩) hg _).setCell (p := ⟨b, 7, none⟩) hg _).setCell (p := ⟨b, 8, none⟩) hg _).setCell (p := ⟨b, 9, none⟩) hg _
theorem size_put (w : World) (a : Addr) (v : Value) : (w.setCell a v).heap.size = w.heap.size := by simp
theorem Lies.far {w : World} {B b o : Nat} {l : List Int} (X : Lies w B l) (h : b ≠ B) (v : Value) : Lies (w.setCell ⟨b, o, none⟩ v) B l :=
  ⟨by rw [size_put]; exact X.lt, fun j x hx => (World.cell?_setCell_other _ ⟨b, o, none⟩ ⟨B, j, none⟩ _ (fun e => h (congrArg Addr.block e))).trans (X.cells j x hx), fun j => by rw [World.frozen?_setCell]; exact X.fz j⟩
theorem Holds.far {w : World} {B b o : Nat} {l : List Value} (X : Holds w B l) (h : b ≠ B) (v : Value) : Holds (w.setCell ⟨b, o, none⟩ v) B l :=
  ⟨by rw [size_put]; exact X.lt, fun j x hx => (World.cell?_setCell_other _ ⟨b, o, none⟩ ⟨B, j, none⟩ _ (fun e => h (congrArg Addr.block e))).trans (X.cells j x hx)⟩
theorem Lies.put {w : World} {B o : Nat} {l : List Int} (X : Lies w B l) (ho : o < l.length) (x : Int) : Lies (w.setCell ⟨B, o, none⟩ (.int .i64 x)) B (l.set o x) :=
  ⟨by rw [size_put]; exact X.lt, fun j u hu => by
    by_cases hj : o = j
    · subst hj
      rw [List.getElem?_set_self ho] at hu
      obtain rfl := Option.some.inj hu
      exact World.cell?_setCell_same _ _ _ (X.cells o (l[o]) (by simp [ho]))
    · rw [List.getElem?_set_ne hj] at hu
      exact (World.cell?_setCell_other _ ⟨B, o, none⟩ ⟨B, j, none⟩ _ (fun e => hj (congrArg Addr.off e))).trans (X.cells j u hu), fun j => by rw [World.frozen?_setCell]; exact X.fz j⟩
theorem Lies.put6 {w : World} {B : Nat} {m0 m1 m2 m3 m4 m5 m6 m7 m8 m9 : Int} (X : Lies w B [m0, m1, m2, m3, m4, m5, m6, m7, m8, m9]) (x0 x1 x2 x3 x4 x5 : Int) :
    Lies ((((((w.setCell ⟨B, 4, none⟩ (.int .i64 x0)).setCell ⟨B, 5, none⟩ (.int .i64 x1)).setCell ⟨B, 6, none⟩ (.int .i64 x2)).setCell ⟨B, 7, none⟩ (.int .i64 x3)).setCell ⟨B, 8, none⟩ (.int .i64 x4)).setCell ⟨B, 9, none⟩ (.int .i64 x5)) B [m0, m1, m2, m3, x0, x1, x2, x3, x4, x5] :=
  (((((X.put (o := 4) (by simp) x0).put (o := 5) (by simp) x1).put (o := 6) (by simp) x2).put (o := 7) (by simp) x3).put (o := 8) (by simp) x4).put (o := 9) (by simp) x5
theorem Lies.far6 {w : World} {B b : Nat} {l : List Int} (X : Lies w B l) (h : b ≠ B) (x0 x1 x2 x3 x4 x5 : Value) : Lies ((((((w.setCell ⟨b, 4, none⟩ x0).setCell ⟨b, 5, none⟩ x1).setCell ⟨b, 6, none⟩ x2).setCell ⟨b, 7, none⟩ x3).setCell ⟨b, 8, none⟩ x4).setCell ⟨b, 9, none⟩ x5) B l :=
  (((((X.far h x0).far h x1).far h x2).far h x3).far h x4).far h x5
theorem Holds.far6 {w : World} {B b : Nat} {l : List Value} (X : Holds w B l) (h : b ≠ B) (x0 x1 x2 x3 x4 x5 : Value) : Holds ((((((w.setCell ⟨b, 4, none⟩ x0).setCell ⟨b, 5, none⟩ x1).setCell ⟨b, 6, none⟩ x2).setCell ⟨b, 7, none⟩ x3).setCell ⟨b, 8, none⟩ x4).setCell ⟨b, 9, none⟩ x5) B l :=
  (((((X.far h x0).far h x1).far h x2).far h x3).far h x4).far h x5
/-- what is held while the four numbers are read in whatever order -/
theorem keptM {w w' w2 : World} {b3 o3 : Nat} {m0 m1 m2 m3 : Int} (h : Below w.heap.size w w' ∧ b3 < w'.heap.size ∧ w'.cell? ⟨b3, o3, none⟩ = some (.int .i64 m0) ∧ w'.cell? ⟨b3, o3 + 1, none⟩ = some (.int .i64 m1) ∧ w'.cell? ⟨b3, o3 + 2, none⟩ = some (.int .i64 m2) ∧ w'.cell? ⟨b3, o3 + 3, none⟩ = some (.int .i64 m3)) (hb : Below w'.heap.size w' w2) : Below w.heap.size w w2 ∧ b3 < w2.heap.size ∧ w2.cell? ⟨b3, o3, none⟩ = some (.int .i64 m0) ∧ w2.cell? ⟨b3, o3 + 1, none⟩ = some (.int .i64 m1) ∧ w2.cell? ⟨b3, o3 + 2, none⟩ = some (.int .i64 m2) ∧ w2.cell? ⟨b3, o3 + 3, none⟩ = some (.int .i64 m3) := by
  obtain ⟨h0, h1, c0, c1, c2, c3⟩ := h
  exact ⟨below_step h0 hb, Nat.lt_of_lt_of_le h1 hb.size, (hb.cell (p := ⟨b3, o3, none⟩) h1).trans c0, (hb.cell (p := ⟨b3, o3 + 1, none⟩) h1).trans c1, (hb.cell (p := ⟨b3, o3 + 2, none⟩) h1).trans c2, (hb.cell (p := ⟨b3, o3 + 3, none⟩) h1).trans c3⟩
end Go.Proofs.YtklcchmpmilcaaaDoor
