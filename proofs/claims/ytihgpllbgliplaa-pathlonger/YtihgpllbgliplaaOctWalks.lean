/- What the calls of package octets answer, for all arguments: the contracts that the claims on its statements rest on. -/
import Derived.Test.YtihgpllbgliplaaOctReads
import Derived.WalkLawsBesides
import Derived.Outline
import Derived.WalkMore
import Derived.ScopeJumps
namespace Go.Proofs.Ytihgpllbgliplaa
open Go.ChangeShapes Go.WideShapes Go.ChangeAt Go.RowKit O
set_option linter.unusedVariables false
set_option linter.unusedSimpArgs false

/-! ### fold, total, Sum -/

/-! ### Put -/
end Go.Proofs.Ytihgpllbgliplaa
