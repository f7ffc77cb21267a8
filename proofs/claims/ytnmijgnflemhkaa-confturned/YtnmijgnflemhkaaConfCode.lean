/- The code of package conf does all that the structure CCode asks. -/
import Derived.Test.YtnmijgnflemhkaaConfIf
import Derived.Test.YtnmijgnflemhkaaConfCMay
import Derived.Test.YtnmijgnflemhkaaConfSameC
import Derived.Test.YtnmijgnflemhkaaPickAll
namespace Go.Proofs.Ytnmijgnflemhkaa
open Go.ChangeShapes Go.WideShapes Go.ChangeAt Go.RowKit Go.Maps Pk Cf
set_option linter.unusedVariables false
set_option linter.unusedSimpArgs false

theorem ordC : OrdC := fun w _ _ _ R h => order_any (N := 100) sortsTo_100 (by decide) w R (by omega)
theorem code : CCode where
  may := fun s n _ _ _ _ _ _ w RT V => cmay_any s n w RT V
  most := fun w V _ => (cmost_any w V).mono fun e w' h => ⟨h.1, h.2 ▸ Below.refl _ _⟩
  at' := fun w V hb sw => cat_any w V hb sw
  same := fun w V V2 hA hB => csame_any w ordC V V2 hA hB
end Go.Proofs.Ytnmijgnflemhkaa
