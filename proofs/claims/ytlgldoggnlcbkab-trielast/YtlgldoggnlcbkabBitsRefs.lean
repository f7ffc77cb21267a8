/- What the document's answers on package bits are, for all arguments: the contracts of the reference functions. -/
import Derived.Test.YtlgldoggnlcbkabBitsWalks
import Derived.Test.YtlgldoggnlcbkabBitsRefMath
namespace Go.Proofs.Ytlgldoggnlcbkab
open Go.ChangeShapes Go.WideShapes Go.ChangeAt Go.RowKit M

end Go.Proofs.Ytlgldoggnlcbkab
