/- What the code's Far and Edge answer. -/
import Derived.Test.YtnmijgnflemhkaaTopOthers
namespace Go.Proofs.Ytnmijgnflemhkaa
open Go.ChangeShapes Go.WideShapes Go.ChangeAt Go.RowKit Go.Maps Tp
set_option linter.unusedVariables false
set_option linter.unusedSimpArgs false

/-- the other end's numbers, or noughts -/
def other (o : Option En) : En := o.getD (0, 0)
/-- three cells of a boxed topology -/
theorem box3 (w : World) (u v x : Value) (t : TypeId) : (w.alloc (.cells #[u, v, x] t)).cell? ⟨w.heap.size, 0, none⟩ = some u ∧ (w.alloc (.cells #[u, v, x] t)).cell? ⟨w.heap.size, 1, none⟩ = some v ∧ (w.alloc (.cells #[u, v, x] t)).cell? ⟨w.heap.size, 2, none⟩ = some x := by
  exact ⟨by simp, by simp, by simp⟩
end Go.Proofs.Ytnmijgnflemhkaa
