/- What GetAll of package octets answers, for all lists: the contract that the claims on its statements rest on. -/
import Derived.Test.YtinmhjgnapbkmaaOctAll
namespace Go.Proofs.Ytinmhjgnapbkmaa
open Go.ChangeShapes Go.WideShapes Go.ChangeAt Go.RowKit O
set_option linter.unusedVariables false
set_option linter.unusedSimpArgs false

theorem ga_wf {b : List Int} (h : Oct b) (ms : List Int) : ∀ z ∈ gaL b ms, (Lit.int .i64 z).wf = true := fun z hz => by
  have := gaL_bd h ms z hz
  exact wf_i64_mk (by omega) (by omega)
theorem ret3 {P : Program} {a b : Option Addr} {n m c d : Nat} {k l e f : Int} (h1 : a = b) (h2 : n = m) (h3 : c = d) (h4 : k = l) (h5 : e = f) : Ending.returned (.tuple #[.slice a n c, .int .i64 k, .int .i64 e]) = .returned (.tuple #[.slice b m d, .int .i64 l, .int .i64 f]) := by rw [h1, h2, h3, h4, h5]

theorem putAll_at (w : World) {a1 a2 : Option Addr} {c1 c2 n1 n2 : Nat} {l ms : List Int} (R1 : Reads .i64 w a1 c1 l) (R2 : Reads .i64 w a2 c2 ms) (h1 : l.length = n1) (h2 : ms.length = n2) (hl : l.length ≤ 1000) :
    Calls Try.prog 43 #[.slice a1 n1 c1, .slice a2 n2 c2] w fun e w' => ∃ a c, e = .returned (.tuple #[.slice a (pallL l ms).length c, .int .i64 (pallE l ms)]) ∧ Reads .u8 w' a c (pallL l ms) ∧ Below w.heap.size w w' := by
  subst h1 h2
  exact putAll_any w R1 R2 hl
end Go.Proofs.Ytinmhjgnapbkmaa
