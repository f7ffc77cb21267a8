/- What the document's own functions on lists of prefixes answer: the contracts that the claims on package trie rest on. -/
import Derived.Test.YtlgldoggnlcbkabTrieRef
import Derived.Test.YtlgldoggnlcbkabRds
import Derived.Test.YtlgldoggnlcbkabBitsRefs
import Derived.Deep.RegionHeld3
namespace Go.Proofs.Ytlgldoggnlcbkab
open Go.ChangeShapes Go.WideShapes Go.ChangeAt Go.RowKit Tt
set_option linter.unusedVariables false
set_option linter.unusedSimpArgs false

def fP (p : P2) : List Int := [p.1, p.2]
def fE (e : T3) : List Int := [e.1.1, e.1.2, e.2]
theorem fP_len (p : P2) : (fP p).length = 2 := rfl
theorem fE_len (e : T3) : (fE e).length = 3 := rfl
theorem infoP : (Try.prog.info? 24).map (fun i => (i.zero, i.size, i.bytes)) = some (some (.agg #[.int .i64 0, .int .i64 0]), 2, 16) := by kernel_rfl
theorem infoE : (Try.prog.info? 26).map (fun i => (i.zero, i.size, i.bytes)) = some (some (.agg #[.int .i64 0, .int .i64 0, .int .i64 0]), 3, 24) := by kernel_rfl
theorem below_lay2 {B b : Nat} {w0 w : World} (x0 x1 : Value) (hb : Below B w0 w) (hg : B ≤ b) : Below B w0 ((w.setCell ⟨b, 0, none⟩ x0).setCell ⟨b, 1, none⟩ x1) := (hb.setCell (p := ⟨b, 0, none⟩) hg _).setCell (p := ⟨b, 1, none⟩) hg _
end Go.Proofs.Ytlgldoggnlcbkab
