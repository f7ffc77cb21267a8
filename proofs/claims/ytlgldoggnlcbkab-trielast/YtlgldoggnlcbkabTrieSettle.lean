/- What the code's settle does to a trie's memory. -/
import Derived.Test.YtlgldoggnlcbkabTrieRaise
namespace Go.Proofs.Ytlgldoggnlcbkab
open Go.ChangeShapes Go.WideShapes Go.ChangeAt Go.RowKit Tt
set_option linter.unusedVariables false
set_option linter.unusedSimpArgs false

/-- does a place's node stay? -/
def stays (m : Mm) (i : Nat) : Bool := decide (i = 0) || m.told i || (decide (m.kid i false ≠ 0) && decide (m.kid i true ≠ 0))
def settleM (m : Mm) (P : Pl) : Mm := if stays m (m.get P) = true then m else { (m.put P (max (m.kid (m.get P) false) (m.kid (m.get P) true))).drop (m.get P) with used := m.used - 1 }
theorem settle_used (m : Mm) (P : Pl) (x i : Nat) : ((m.put P x).drop i).used = m.used := by cases P <;> rfl
theorem ret0 {P : Program} {fn : Func} {R : Ending → World → Prop} {a : Act} {w : World} (h : fn.results = #[]) (hd : a.defers = []) (hR : R (.returned (.tuple #[])) w) : bodyPost P fn R .ret a w := bodyPost_ret (results_none h _ _ _) hd hR
section
set_option maxRecDepth 100000
set_option maxHeartbeats 1000000
variable {w : World} {B : Nat} {m : Mm} (h : Has w B (cellOf m)) (hm : okM m) {P : Pl} (hP : P.ok) (hu : m.used ≤ 1000)
include h hm hP hu
end
end Go.Proofs.Ytlgldoggnlcbkab
