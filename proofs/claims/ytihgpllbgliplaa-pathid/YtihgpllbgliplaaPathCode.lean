/- The code of package path does all that the structure PCode asks. -/
import Derived.Test.YtihgpllbgliplaaPathStepC
import Derived.Test.YtihgpllbgliplaaPathWalkC
namespace Go.Proofs.Ytihgpllbgliplaa
open Go.ChangeShapes Go.WideShapes Go.ChangeAt Go.RowKit Go.Maps Pk Cf Pa
set_option linter.unusedVariables false
set_option linter.unusedSimpArgs false

theorem pcode : PCode where
  step := fun s n _ _ _ _ _ _ w RT V hl hb f hf => stepc_any s n w RT V hl hb f hf
  walk := fun s n _ _ _ _ _ _ w RT V hl hb f hf => walkC_any s n w (fun u hu g hg => stepc_any s n u (RT.later hu) (V.later hu) hl hb g hg) (fun k hk => RT.wf k hk) (lists_wf V) f hf
end Go.Proofs.Ytihgpllbgliplaa
