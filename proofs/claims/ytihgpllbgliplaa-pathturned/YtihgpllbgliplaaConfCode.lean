/- The code of package conf does all that the structure CCode asks. -/
import Derived.Test.YtihgpllbgliplaaConfIf
import Derived.Test.YtihgpllbgliplaaConfCMay
import Derived.Test.YtihgpllbgliplaaConfCAt
import Derived.Test.YtihgpllbgliplaaConfSameC
import Derived.Test.YtihgpllbgliplaaPickAll
namespace Go.Proofs.Ytihgpllbgliplaa
open Go.ChangeShapes Go.WideShapes Go.ChangeAt Go.RowKit Go.Maps Pk Cf
set_option linter.unusedVariables false
set_option linter.unusedSimpArgs false

theorem ordC : OrdC := fun w _ _ _ R h => order_any (N := 100) sortsTo_100 (by decide) w R (by omega)
theorem code : CCode where
  may := fun s n _ _ _ _ _ _ w RT V => cmay_any s n w RT V
  at' := fun w V hb sw => cat_any w V hb sw
  same := fun w V V2 hA hB => csame_any w ordC V V2 hA hB
end Go.Proofs.Ytihgpllbgliplaa
