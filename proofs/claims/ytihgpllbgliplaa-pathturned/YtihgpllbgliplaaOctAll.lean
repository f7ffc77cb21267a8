/- What PutAll and GetAll of package octets answer. -/
import Derived.Test.YtihgpllbgliplaaOctAppend
import Derived.Test.YtihgpllbgliplaaMaths
/-! What PutAll and GetAll of package octets answer, for all lists: the contracts that the claims on its statements rest on. -/
namespace Go.Proofs.Ytihgpllbgliplaa
open Go.ChangeShapes Go.WideShapes Go.ChangeAt Go.RowKit O
set_option linter.unusedVariables false
set_option linter.unusedSimpArgs false

theorem own_later {w w' : World} {base e n : Nat} {v : Value} {xs : List Value} (h : w.ownsRow base e 1 v n xs) (hb : Below w.heap.size w w') : w'.ownsRow base e 1 v n xs := by
  refine ⟨h.1, ?_⟩
  rcases h.2 with h0 | ⟨g, cap, cur, hv, hbg, hg, rest⟩
  · exact .inl h0
  · exact .inr ⟨g, cap, cur, hv, hbg, (hb.block g (Array.getElem?_eq_some_iff.1 hg).1).trans hg, rest⟩
theorem own_mono {w : World} {base base2 e n : Nat} {v : Value} {xs : List Value} (h : w.ownsRow base e 1 v n xs) (hb : base2 ≤ base) : w.ownsRow base2 e 1 v n xs := by
  refine ⟨h.1, ?_⟩
  rcases h.2 with h0 | ⟨g, cap, cur, hv, hbg, rest⟩
  · exact .inl h0
  · exact .inr ⟨g, cap, cur, hv, Nat.le_trans hb hbg, rest⟩
theorem cell_el {k : IntKind} {w : World} {b o i : Nat} {l : List Int} (hc : ∀ i, i < l.length → w.cell? ⟨b, o + i, none⟩ = some (.int k (l.getD i 0))) (hi : i < l.length) : w.cell? ⟨b, o + i, none⟩ = some (.int k l[i]) := by
  rw [hc i hi, getD_el hi]

end Go.Proofs.Ytihgpllbgliplaa

/-! What GetAll of package octets answers, for all lists: the contract that the claims on its statements rest on. -/
namespace Go.Proofs.Ytihgpllbgliplaa
open Go.ChangeShapes Go.WideShapes Go.ChangeAt Go.RowKit O
set_option linter.unusedVariables false
set_option linter.unusedSimpArgs false

theorem ga_wf {b : List Int} (h : Oct b) (ms : List Int) : ∀ z ∈ gaL b ms, (Lit.int .i64 z).wf = true := fun z hz => by
  have := gaL_bd h ms z hz
  exact wf_i64_mk (by omega) (by omega)
theorem ret3 {P : Program} {a b : Option Addr} {n m c d : Nat} {k l e f : Int} (h1 : a = b) (h2 : n = m) (h3 : c = d) (h4 : k = l) (h5 : e = f) : Ending.returned (.tuple #[.slice a n c, .int .i64 k, .int .i64 e]) = .returned (.tuple #[.slice b m d, .int .i64 l, .int .i64 f]) := by rw [h1, h2, h3, h4, h5]

end Go.Proofs.Ytihgpllbgliplaa
