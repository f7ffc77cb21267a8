/- What the code's Cut does to a trie's memory; and what its Nodes answers. -/
import Derived.Test.YtlgldoggnlcbkabTrieSettle
namespace Go.Proofs.Ytlgldoggnlcbkab
open Go.ChangeShapes Go.WideShapes Go.ChangeAt Go.RowKit Tt
set_option linter.unusedVariables false
set_option linter.unusedSimpArgs false

section
set_option maxRecDepth 100000
set_option maxHeartbeats 1000000
theorem nodes_any {w : World} {B : Nat} {m : Mm} (h : Has w B (cellOf m)) :
    Calls Try.prog 9 #[.pointer (some ⟨B, 0, none⟩)] w fun e w' => e = .returned (.int .i64 (m.used : Nat)) ∧ Below w.heap.size w w' := by
  obtain ⟨r0, r1, r2, r3⟩ := h.head
  go_enter Try.func9, Try.ntmps9
  go_wp2_with fail
  go_ret
  exact ⟨rfl, Below.refl _ _⟩
theorem nodes_nil (w : World) : Calls Try.prog 9 #[.pointer none] w fun e w' => e = .returned (.int .i64 0) ∧ Below w.heap.size w w' := by
  go_enter Try.func9, Try.ntmps9
  go_wp2_with fail
  go_ret
  exact ⟨rfl, Below.refl _ _⟩
end
end Go.Proofs.Ytlgldoggnlcbkab
