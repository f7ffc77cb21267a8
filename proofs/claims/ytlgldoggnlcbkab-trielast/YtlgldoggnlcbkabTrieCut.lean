/- What the document's Cut and Find answer. -/
import Derived.Test.YtlgldoggnlcbkabTrieList
namespace Go.Proofs.Ytlgldoggnlcbkab
open Go.ChangeShapes Go.WideShapes Go.ChangeAt Go.RowKit Tt
set_option linter.unusedVariables false
set_option linter.unusedSimpArgs false

theorem cut_next (p : P2) {l : List T3} {k : Nat} (h : k < l.length) : cutR (l.take (k + 1)) p = cutR (l.take k) p ++ (if l[k].1 ≠ p then [l[k]] else []) := by
  unfold cutR
  rw [List.take_succ_eq_append_getElem h, List.filter_append]
  congr 1
  by_cases hp : l[k].1 = p
  · simp [hp]
  · simp [hp]
/-! ### Find -/
theorem size_put7 (w : World) (a : Addr) (v : Value) : (w.setCell a v).heap.size = w.heap.size := by simp
theorem Lies.put7 {w : World} {B o : Nat} {l : List Int} (X : Lies w B l) (ho : o < l.length) (x : Int) : Lies (w.setCell ⟨B, o, none⟩ (.int .i64 x)) B (l.set o x) :=
  ⟨by rw [size_put7]; exact X.lt, fun j u hu => by
    by_cases hj : o = j
    · subst hj
      rw [List.getElem?_set_self ho] at hu
      obtain rfl := Option.some.inj hu
      exact World.cell?_setCell_same _ _ _ (X.cells o (l[o]) (by simp [ho]))
    · rw [List.getElem?_set_ne hj] at hu
      exact (World.cell?_setCell_other _ ⟨B, o, none⟩ ⟨B, j, none⟩ _ (fun e => hj (congrArg Addr.off e))).trans (X.cells j u hu), fun j => by rw [World.frozen?_setCell]; exact X.fz j⟩
theorem Lies.far7 {w : World} {B b o : Nat} {l : List Int} (X : Lies w B l) (h : b ≠ B) (v : Value) : Lies (w.setCell ⟨b, o, none⟩ v) B l :=
  ⟨by rw [size_put7]; exact X.lt, fun j x hx => (World.cell?_setCell_other _ ⟨b, o, none⟩ ⟨B, j, none⟩ _ (fun e => h (congrArg Addr.block e))).trans (X.cells j x hx), fun j => by rw [World.frozen?_setCell]; exact X.fz j⟩
theorem Lies.put3 {w : World} {B : Nat} {y0 y1 y2 : Int} (X : Lies w B [y0, y1, y2]) (x0 x1 x2 : Int) : Lies (((w.setCell ⟨B, 0, none⟩ (.int .i64 x0)).setCell ⟨B, 1, none⟩ (.int .i64 x1)).setCell ⟨B, 2, none⟩ (.int .i64 x2)) B [x0, x1, x2] :=
  ((X.put7 (o := 0) (by simp) x0).put7 (o := 1) (by simp) x1).put7 (o := 2) (by simp) x2
theorem Lies.far3 {w : World} {B b : Nat} {l : List Int} (X : Lies w B l) (h : b ≠ B) (x0 x1 x2 : Value) : Lies (((w.setCell ⟨b, 0, none⟩ x0).setCell ⟨b, 1, none⟩ x1).setCell ⟨b, 2, none⟩ x2) B l := ((X.far7 h x0).far7 h x1).far7 h x2
theorem below_lay3 {B b : Nat} {w0 w : World} (x0 x1 x2 : Value) (hb : Below B w0 w) (hg : B ≤ b) : Below B w0 (((w.setCell ⟨b, 0, none⟩ x0).setCell ⟨b, 1, none⟩ x1).setCell ⟨b, 2, none⟩ x2) := ((hb.setCell (p := ⟨b, 0, none⟩) hg _).setCell (p := ⟨b, 1, none⟩) hg _).setCell (p := ⟨b, 2, none⟩) hg _
/-- the best so far, as numbers: noughts, if there is none -/
def bestE : Option T3 → List Int
  | some x => [x.1.1, x.1.2, x.2]
  | none => [0, 0, 0]
theorem find_next (addr : Int) {l : List T3} {k : Nat} (h : k < l.length) : findR (l.take (k + 1)) addr none = betterR addr (findR (l.take k) addr none) l[k] := by
  unfold findR
  rw [List.take_succ_eq_append_getElem h, List.foldl_append]
  rfl
end Go.Proofs.Ytlgldoggnlcbkab
