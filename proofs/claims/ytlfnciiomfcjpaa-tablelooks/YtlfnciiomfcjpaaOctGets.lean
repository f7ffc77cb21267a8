/- What GetAll of package octets answers, for all lists: the contract that the claims on its statements rest on. -/
import Derived.Test.YtlfnciiomfcjpaaOctAll
namespace Go.Proofs.Ytlfnciiomfcjpaa
open Go.ChangeShapes Go.WideShapes Go.ChangeAt Go.RowKit O
set_option linter.unusedVariables false
set_option linter.unusedSimpArgs false

theorem ga_wf {b : List Int} (h : Oct b) (ms : List Int) : ∀ z ∈ gaL b ms, (Lit.int .i64 z).wf = true := fun z hz => by
  have := gaL_bd h ms z hz
  exact wf_i64_mk (by omega) (by omega)
theorem ret3 {P : Program} {a b : Option Addr} {n m c d : Nat} {k l e f : Int} (h1 : a = b) (h2 : n = m) (h3 : c = d) (h4 : k = l) (h5 : e = f) : Ending.returned (.tuple #[.slice a n c, .int .i64 k, .int .i64 e]) = .returned (.tuple #[.slice b m d, .int .i64 l, .int .i64 f]) := by rw [h1, h2, h3, h4, h5]

end Go.Proofs.Ytlfnciiomfcjpaa
