/- The library's sort does what it is to do, for at most a hundred numbers: so Order answers the one list in order. -/
import Derived.Test.YtihgpllbgliplaaPickPdq
import Derived.Test.YtihgpllbgliplaaPickSorted
namespace Go.Proofs.Ytihgpllbgliplaa
open Go.ChangeShapes Go.WideShapes Go.ChangeAt Go.RowKit Go.Sort Go.Shelf
set_option linter.unusedVariables false
set_option linter.unusedSimpArgs false

section
set_option maxRecDepth 100000
set_option maxHeartbeats 2000000
theorem sorts_any {n : Nat} (hn : n + 1 ≤ 1000) : Sorts n := by
  intro w0 B rv cf hc hO w d c N R hd hN
  have hdN : d.size = N := hd.trans hN.symm
  have cl := fun w => len_any N (by omega) w
  have hlim : Lib.bitLen N ≤ 1000 := by
    rw [bitLen_eq _ (by omega)]
    exact Nat.le_trans ((bitsLen_le_iff N 10).2 (by omega)) (by decide)
  have cp := fun w R => pdq_any hc hO N (w := w) (d := d) R (a := 0) (b := N) (c := c) (limit := Lib.bitLen N) (by omega) (by omega) (by omega) (by omega) hlim (.inl rfl)
  rw [hdN] at cp
  have wu : IntKind.u64.wrap (N : Int) = (N : Int) := by rw [IntKind.wrap_u64]; omega
  have HN : Hid (N = n + 1) := hN
  generalize Lib.bitLen N = lim at cl cp
  clear hN hlim hd hn hdN
  go_enter Try.func49, Try.ntmps49
  go_wp2_with fail
  refine (cl _).mono ?_
  rintro e w2 ⟨rfl, rfl⟩
  go_wp2_with fail
  refine (cp _ R).mono ?_
  rintro e w2 ⟨rfl, d2, hp, hs, R2⟩
  go_wp2_with fail
  go_end0
  exact ⟨rfl, d2, R2, HN.out ▸ hp, HN.out ▸ hs⟩
end
theorem sortsTo_100 : SortsTo 100 := fun n h => sorts_any (by omega)
end Go.Proofs.Ytihgpllbgliplaa
